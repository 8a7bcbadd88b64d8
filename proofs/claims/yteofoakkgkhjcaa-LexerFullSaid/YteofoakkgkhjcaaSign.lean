/- Contracts: signs and the first token. -/
import Derived.Test.YteofoakkgkhjcaaRows
import Derived.WalkKit
import Derived.ProofKit
import Derived.OpenShut
import Derived.Below
import Derived.Lib.Hide
import Derived.WalkSpells
import Derived.WalkLawsBesides
import Derived.Outline
import Derived.Test.YteofoakkgkhjcaaRun
namespace Go.Proofs.Yteofoakkgkhjcaa
open Go.ChangeShapes Go.WideShapes Go.ChangeAt Go.RowKit
set_option linter.unusedSimpArgs false
set_option linter.unusedVariables false
theorem ret_n {a b : Nat} (h : a = b) : Ending.returned (.int .i64 (a : Int)) = .returned (.int .i64 (b : Int)) := by rw [h]
theorem ret_i {a b : Int} (h : a = b) : Ending.returned (.int .i64 a) = .returned (.int .i64 b) := by rw [h]
theorem head_eq (s : ByteArray) (h0 : 0 < s.size) : s.data.toList.headD 0 = s[0] := by
  obtain ⟨⟨l⟩⟩ := s
  match l, h0 with
  | c :: l, _ => rfl
theorem take_two (s : ByteArray) : (s.extract 0 2).toList = s.data.toList.take 2 := by
  rw [Lib.toList_data, Lib.extract_data]; rfl
theorem sgn_three {s : ByteArray} (hp : Lib.hasPrefix s.data.toList [60, 61, 62] = true) : sgn s.data.toList = 3 := by unfold sgn; rw [if_pos hp]
theorem sgn_two {s : ByteArray} {t : List UInt8} (hp : Lib.hasPrefix s.data.toList [60, 61, 62] = false) (ht : t ∈ two) (h : ((s.extract 0 2).toList == t) = true) : sgn s.data.toList = 2 := by
  unfold sgn
  rw [if_neg (by simp [hp]), if_pos]
  rw [← take_two]
  have : (s.extract 0 2).toList = t := by simpa using h
  rw [this]; exact ht
theorem sgn_small {s : ByteArray} (h0 : 0 < s.size) (hp : Lib.hasPrefix s.data.toList [60, 61, 62] = false) (ht : (s.extract 0 2).toList ∉ two) :
    sgn s.data.toList = if 0 ≤ Lib.indexByte [43, 45, 42, 47, 37, 38, 124, 94, 33, 61, 60, 62, 40, 41, 123, 125, 91, 93, 59, 44] s[0] then 1 else 0 := by
  unfold sgn
  rw [if_neg (by simp [hp]), if_neg (by rw [← take_two]; exact ht), head_eq s h0]
  rfl
theorem two_len {t : List UInt8} (h : t ∈ two) : t.length = 2 := by
  simp only [two, List.mem_cons, List.not_mem_nil, or_false] at h
  rcases h with rfl | rfl | rfl | rfl | rfl | rfl | rfl | rfl | rfl | rfl <;> rfl
set_option maxHeartbeats 4000000 in
theorem sign_any (s : ByteArray) (w : World) (hs : s.size ≤ 65536) (h0 : 0 < s.size) : Calls Try.prog 33 #[.string s] w fun e w' => e = .returned (.int .i64 (sgn s.data.toList)) ∧ w = w' := by
  cases hp : Lib.hasPrefix s.data.toList [60, 61, 62]
  · by_cases h2 : 2 ≤ s.size
    · generalize hN : sgn s.data.toList = n
      have HN := Lib.hid hN
      clear hN
      cases t0 : (s.extract 0 2).toList == [58, 61]
      rotate_left
      · have HN2 := Lib.hid (HN.out.symm.trans (sgn_two hp (by decide) t0))
        have hd : decide (2 ≤ s.size) = true := by simpa using h2
        go_enter Try.func33, Try.ntmps33
        go_wp2_with (first | (go_at_call 38; refine (Try.strings_HasPrefix _ _ _).mono ?_; rintro e w' ⟨rfl, hw⟩; subst hw) | (go_at_call 39; refine (Try.strings_IndexByte _ _ _).mono ?_; rintro e w' ⟨rfl, hw⟩; subst hw))
        go_ret
        exact ⟨by rw [HN2.out]; rfl, rfl⟩
      cases t1 : (s.extract 0 2).toList == [43, 61]
      rotate_left
      · have HN2 := Lib.hid (HN.out.symm.trans (sgn_two hp (by decide) t1))
        have hd : decide (2 ≤ s.size) = true := by simpa using h2
        go_enter Try.func33, Try.ntmps33
        go_wp2_with (first | (go_at_call 38; refine (Try.strings_HasPrefix _ _ _).mono ?_; rintro e w' ⟨rfl, hw⟩; subst hw) | (go_at_call 39; refine (Try.strings_IndexByte _ _ _).mono ?_; rintro e w' ⟨rfl, hw⟩; subst hw))
        go_ret
        exact ⟨by rw [HN2.out]; rfl, rfl⟩
      cases t2 : (s.extract 0 2).toList == [45, 61]
      rotate_left
      · have HN2 := Lib.hid (HN.out.symm.trans (sgn_two hp (by decide) t2))
        have hd : decide (2 ≤ s.size) = true := by simpa using h2
        go_enter Try.func33, Try.ntmps33
        go_wp2_with (first | (go_at_call 38; refine (Try.strings_HasPrefix _ _ _).mono ?_; rintro e w' ⟨rfl, hw⟩; subst hw) | (go_at_call 39; refine (Try.strings_IndexByte _ _ _).mono ?_; rintro e w' ⟨rfl, hw⟩; subst hw))
        go_ret
        exact ⟨by rw [HN2.out]; rfl, rfl⟩
      cases t3 : (s.extract 0 2).toList == [94, 61]
      rotate_left
      · have HN2 := Lib.hid (HN.out.symm.trans (sgn_two hp (by decide) t3))
        have hd : decide (2 ≤ s.size) = true := by simpa using h2
        go_enter Try.func33, Try.ntmps33
        go_wp2_with (first | (go_at_call 38; refine (Try.strings_HasPrefix _ _ _).mono ?_; rintro e w' ⟨rfl, hw⟩; subst hw) | (go_at_call 39; refine (Try.strings_IndexByte _ _ _).mono ?_; rintro e w' ⟨rfl, hw⟩; subst hw))
        go_ret
        exact ⟨by rw [HN2.out]; rfl, rfl⟩
      cases t4 : (s.extract 0 2).toList == [61, 61]
      rotate_left
      · have HN2 := Lib.hid (HN.out.symm.trans (sgn_two hp (by decide) t4))
        have hd : decide (2 ≤ s.size) = true := by simpa using h2
        go_enter Try.func33, Try.ntmps33
        go_wp2_with (first | (go_at_call 38; refine (Try.strings_HasPrefix _ _ _).mono ?_; rintro e w' ⟨rfl, hw⟩; subst hw) | (go_at_call 39; refine (Try.strings_IndexByte _ _ _).mono ?_; rintro e w' ⟨rfl, hw⟩; subst hw))
        go_ret
        exact ⟨by rw [HN2.out]; rfl, rfl⟩
      cases t5 : (s.extract 0 2).toList == [33, 61]
      rotate_left
      · have HN2 := Lib.hid (HN.out.symm.trans (sgn_two hp (by decide) t5))
        have hd : decide (2 ≤ s.size) = true := by simpa using h2
        go_enter Try.func33, Try.ntmps33
        go_wp2_with (first | (go_at_call 38; refine (Try.strings_HasPrefix _ _ _).mono ?_; rintro e w' ⟨rfl, hw⟩; subst hw) | (go_at_call 39; refine (Try.strings_IndexByte _ _ _).mono ?_; rintro e w' ⟨rfl, hw⟩; subst hw))
        go_ret
        exact ⟨by rw [HN2.out]; rfl, rfl⟩
      cases t6 : (s.extract 0 2).toList == [60, 61]
      rotate_left
      · have HN2 := Lib.hid (HN.out.symm.trans (sgn_two hp (by decide) t6))
        have hd : decide (2 ≤ s.size) = true := by simpa using h2
        go_enter Try.func33, Try.ntmps33
        go_wp2_with (first | (go_at_call 38; refine (Try.strings_HasPrefix _ _ _).mono ?_; rintro e w' ⟨rfl, hw⟩; subst hw) | (go_at_call 39; refine (Try.strings_IndexByte _ _ _).mono ?_; rintro e w' ⟨rfl, hw⟩; subst hw))
        go_ret
        exact ⟨by rw [HN2.out]; rfl, rfl⟩
      cases t7 : (s.extract 0 2).toList == [62, 61]
      rotate_left
      · have HN2 := Lib.hid (HN.out.symm.trans (sgn_two hp (by decide) t7))
        have hd : decide (2 ≤ s.size) = true := by simpa using h2
        go_enter Try.func33, Try.ntmps33
        go_wp2_with (first | (go_at_call 38; refine (Try.strings_HasPrefix _ _ _).mono ?_; rintro e w' ⟨rfl, hw⟩; subst hw) | (go_at_call 39; refine (Try.strings_IndexByte _ _ _).mono ?_; rintro e w' ⟨rfl, hw⟩; subst hw))
        go_ret
        exact ⟨by rw [HN2.out]; rfl, rfl⟩
      cases t8 : (s.extract 0 2).toList == [38, 38]
      rotate_left
      · have HN2 := Lib.hid (HN.out.symm.trans (sgn_two hp (by decide) t8))
        have hd : decide (2 ≤ s.size) = true := by simpa using h2
        go_enter Try.func33, Try.ntmps33
        go_wp2_with (first | (go_at_call 38; refine (Try.strings_HasPrefix _ _ _).mono ?_; rintro e w' ⟨rfl, hw⟩; subst hw) | (go_at_call 39; refine (Try.strings_IndexByte _ _ _).mono ?_; rintro e w' ⟨rfl, hw⟩; subst hw))
        go_ret
        exact ⟨by rw [HN2.out]; rfl, rfl⟩
      cases t9 : (s.extract 0 2).toList == [124, 124]
      rotate_left
      · have HN2 := Lib.hid (HN.out.symm.trans (sgn_two hp (by decide) t9))
        have hd : decide (2 ≤ s.size) = true := by simpa using h2
        go_enter Try.func33, Try.ntmps33
        go_wp2_with (first | (go_at_call 38; refine (Try.strings_HasPrefix _ _ _).mono ?_; rintro e w' ⟨rfl, hw⟩; subst hw) | (go_at_call 39; refine (Try.strings_IndexByte _ _ _).mono ?_; rintro e w' ⟨rfl, hw⟩; subst hw))
        go_ret
        exact ⟨by rw [HN2.out]; rfl, rfl⟩
      have hnot : (s.extract 0 2).toList ∉ two := by
        intro h
        simp only [two, List.mem_cons, List.not_mem_nil, or_false] at h
        rcases h with h | h | h | h | h | h | h | h | h | h
        · rw [h] at t0; simp at t0
        · rw [h] at t1; simp at t1
        · rw [h] at t2; simp at t2
        · rw [h] at t3; simp at t3
        · rw [h] at t4; simp at t4
        · rw [h] at t5; simp at t5
        · rw [h] at t6; simp at t6
        · rw [h] at t7; simp at t7
        · rw [h] at t8; simp at t8
        · rw [h] at t9; simp at t9
      have HN2 := Lib.hid (HN.out.symm.trans (sgn_small h0 hp hnot))
      clear hnot
      have hd : decide (2 ≤ s.size) = true := by simpa using h2
      by_cases hi : 0 ≤ Lib.indexByte [43, 45, 42, 47, 37, 38, 124, 94, 33, 61, 60, 62, 40, 41, 123, 125, 91, 93, 59, 44] s[0]
      all_goals
        have HI := Lib.hid hi
        go_enter Try.func33, Try.ntmps33
        go_wp2_with (first | (go_at_call 38; refine (Try.strings_HasPrefix _ _ _).mono ?_; rintro e w' ⟨rfl, hw⟩; subst hw) | (go_at_call 39; refine (Try.strings_IndexByte _ _ _).mono ?_; rintro e w' ⟨rfl, hw⟩; subst hw))
        go_ret
        exact ⟨ret_i (by rw [HN2.out]; first | (rw [if_pos HI.out]; rfl) | (rw [if_neg HI.out]; rfl) | (rw [if_neg (by have := HI.out; omega)]; rfl)), rfl⟩
    · generalize hN : sgn s.data.toList = n
      have hnot : (s.extract 0 2).toList ∉ two := by
        intro h
        have := two_len h
        rw [take_two, List.length_take] at this
        have hl : s.data.toList.length = s.size := rfl
        omega
      have HN2 := Lib.hid (hN.symm.trans (sgn_small h0 hp hnot))
      clear hnot hN
      have hd : decide (2 ≤ s.size) = false := by simpa using h2
      by_cases hi : 0 ≤ Lib.indexByte [43, 45, 42, 47, 37, 38, 124, 94, 33, 61, 60, 62, 40, 41, 123, 125, 91, 93, 59, 44] s[0]
      all_goals
        have HI := Lib.hid hi
        go_enter Try.func33, Try.ntmps33
        go_wp2_with (first | (go_at_call 38; refine (Try.strings_HasPrefix _ _ _).mono ?_; rintro e w' ⟨rfl, hw⟩; subst hw) | (go_at_call 39; refine (Try.strings_IndexByte _ _ _).mono ?_; rintro e w' ⟨rfl, hw⟩; subst hw))
        go_ret
        exact ⟨ret_i (by rw [HN2.out]; first | (rw [if_pos HI.out]; rfl) | (rw [if_neg HI.out]; rfl) | (rw [if_neg (by have := HI.out; omega)]; rfl)), rfl⟩
  · rw [sgn_three hp]
    go_enter Try.func33, Try.ntmps33
    go_wp2_with (first | (go_at_call 38; refine (Try.strings_HasPrefix _ _ _).mono ?_; rintro e w' ⟨rfl, hw⟩; subst hw) | (go_at_call 39; refine (Try.strings_IndexByte _ _ _).mono ?_; rintro e w' ⟨rfl, hw⟩; subst hw))
    go_ret
    exact ⟨rfl, rfl⟩
end Go.Proofs.Yteofoakkgkhjcaa
