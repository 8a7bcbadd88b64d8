/- Contracts: names. -/
import Derived.Test.YteofoakkgkhjcaaRows
import Derived.WalkKit
import Derived.ProofKit
import Derived.OpenShut
import Derived.Below
import Derived.Lib.Hide
import Derived.WalkSpells
import Derived.WalkLawsBesides
import Derived.Outline
import Derived.Test.YteofoakkgkhjcaaKindW
namespace Go.Proofs.Yteofoakkgkhjcaa
open Go.ChangeShapes Go.WideShapes Go.ChangeAt Go.RowKit
set_option linter.unusedSimpArgs false
set_option linter.unusedVariables false
def nameL (l : List UInt8) : Bool := decide (kindR l = 1) && (decide (l.length ≤ 16) && !decide (l ∈ keywords))
theorem kind_one (l : List UInt8) : kindR l = 1 ↔ l ≠ [] ∧ fstK l = 1 ∧ fstN l = l.length := by
  by_cases hl : l = []
  · subst hl; simp [kindR]
  · cases b : isL ((l.headD 0).toNat : Int)
    · constructor
      · intro h
        exfalso
        unfold kindR at h
        rw [if_neg hl, b, Bool.false_and, if_neg (by simp)] at h
        split at h
        · cases h
        · split at h
          · cases h
          · split at h
            · cases h
            · split at h <;> cases h
      · rintro ⟨_, h, _⟩
        exfalso
        simp only [fstK, b, Bool.false_eq_true, if_false] at h
        split at h
        · cases h
        · split at h
          · cases h
          · split at h <;> cases h
    · have hk := kind_letter hl b
      have e1 : fstK l = 1 := by simp only [fstK, b, if_true]
      have e2 : fstN l = runN isW l := by simp only [fstN, b, if_true]
      have h3 := allB_take isW l l.length (Nat.le_refl _)
      rw [List.take_length] at h3
      have h4 := runN_le isW l
      rw [hk, e1, e2]
      constructor
      · intro h
        have : allB isW l = true := by
          by_cases h5 : allB isW l = true
          · exact h5
          · rw [if_neg h5] at h; cases h
        exact ⟨hl, rfl, by have := h3.1 this; omega⟩
      · rintro ⟨_, _, h⟩
        rw [if_pos (h3.2 (by omega))]
theorem lex_one {l : List UInt8} (h : kindR l = 1) : lexR l 0 = ([⟨1, l, 0⟩], none) := by
  obtain ⟨h1, h2, h3⟩ := (kind_one l).1 h
  have : 0 < l.length := List.length_pos_iff.2 h1
  rw [lexR_cons h1 0 (by omega), h3, List.take_length, List.drop_length, lexR_nil, h2]
theorem kw_kind : ∀ l ∈ keywords, kindR l = 1 := by decide
theorem name_empty : nameL [] = false := by decide
theorem name_long {l : List UInt8} (h : 16 < l.length) : nameL l = false := by
  unfold nameL
  rw [decide_eq_false (p := l.length ≤ 16) (by omega)]
  simp
theorem name_bad {l : List UInt8} (h : kindR l ≠ 1) : nameL l = false := by
  unfold nameL
  rw [decide_eq_false h, Bool.false_and]
theorem name_in {l : List UInt8} (h : kindR l = 1) (h2 : l.length ≤ 16) : nameL l = !decide (l ∈ keywords) := by
  unfold nameL
  rw [decide_eq_true h, decide_eq_true h2, Bool.true_and, Bool.true_and]
theorem size_pos {s : ByteArray} (h : ¬ s.size = 0) : (s.toList == ByteArray.toList ⟨#[]⟩) = false ∧ s.toList.isEmpty = false := by
  have hne : s.data.toList ≠ [] := fun e => h (by have := congrArg List.length e; exact this)
  constructor
  · rw [Lib.toList_data]; simpa using hne
  · rw [Lib.toList_data]; simpa using hne
set_option maxHeartbeats 2000000 in
theorem name_any (s : ByteArray) (w : World) (hs : s.size ≤ maxLen) : Calls Try.prog 18 #[.string s] w fun e w' => e = .returned (.bool (nameL s.data.toList)) ∧ Below w.heap.size w w' := by
  have HW : Below w.heap.size w w := Below.refl _ _
  by_cases h0 : s.size = 0
  · have he : s = ⟨#[]⟩ := by
      apply Go.WideShapes.bytes_inj
      exact List.length_eq_zero_iff.1 h0
    subst he
    go_enter Try.func18, Try.ntmps18
    go_wp2
    go_ret
    exact ⟨rfl, HW⟩
  obtain ⟨q1, q2⟩ := size_pos h0
  by_cases h16 : 16 < s.size
  · have hn := Lib.hid (name_long (l := s.data.toList) h16)
    have hd : decide ((16 : Int) < (s.size : Int)) = true := by simp; omega
    clear h0
    go_enter Try.func18, Try.ntmps18
    go_wp2
    go_ret
    exact ⟨by rw [hn.out]; rfl, HW⟩
  have hd : decide ((16 : Int) < (s.size : Int)) = false := by simp; omega
  have hd3 : ¬ (16 : Int) < (s.size : Int) := by omega
  have hlen : s.data.toList.length = s.size := rfl
  have hone := kind_one s.data.toList
  have hne : s.data.toList ≠ [] := fun e => h0 (by have := congrArg List.length e; exact this)
  have HS1 : Hid (s.size ≤ 65536) := Lib.hid (by omega)
  have HS2 : Hid (0 < s.size) := Lib.hid (by omega)
  generalize hR : nameL s.data.toList = R
  have HR := Lib.hid hR
  clear hR
  cases c1 : (fstK s.data.toList == 1)
  · have HK := Lib.hid (name_bad (l := s.data.toList) (fun e => by have := (hone.1 e).2.1; rw [this] at c1; simp at c1))
    clear hone hne hlen h0
    go_enter Try.func18, Try.ntmps18
    go_wp2_with (go_at_call 23; refine (first_any _ _ HS1.out HS2.out).mono ?_; rintro e w1 ⟨rfl, rfl⟩)
    go_ret
    exact ⟨by rw [← HR.out, HK.out]; rfl, HW⟩
  cases c2 : ((fstN s.data.toList : Int) == (s.size : Int))
  · have HK := Lib.hid (name_bad (l := s.data.toList) (fun e => by have := (hone.1 e).2.2; rw [this] at c2; simp at c2))
    clear hone hne hlen h0
    go_enter Try.func18, Try.ntmps18
    go_wp2_with (go_at_call 23; refine (first_any _ _ HS1.out HS2.out).mono ?_; rintro e w1 ⟨rfl, rfl⟩)
    go_ret
    exact ⟨by rw [← HR.out, HK.out]; rfl, HW⟩
  have hfn : (fstN s.data.toList : Int) = (s.size : Int) := by simpa using c2
  have HK := Lib.hid (name_in (l := s.data.toList) (hone.2 ⟨hne, by simpa using c1, by omega⟩) (by omega))
  clear hfn
  clear hone hne hlen h0
  generalize hkk : decide (s.data.toList ∈ keywords) = kk
  have HKK := Lib.hid hkk
  clear hkk
  cases kk
  all_goals
    go_enter Try.func18, Try.ntmps18
    go_wp2_with (first | (go_at_call 23; refine (first_any _ _ HS1.out HS2.out).mono ?_; rintro e w1 ⟨rfl, rfl⟩) | (go_at_call 20; refine (keyword_any _ _ hs).mono ?_; rintro e w1 ⟨rfl, hb⟩; rw [HKK.out]; replace HW := below_on HW hb; clear hb))
    go_ret
    exact ⟨by rw [← HR.out, HK.out, HKK.out]; rfl, HW⟩
set_option maxHeartbeats 2000000 in
theorem nameR_any (s : ByteArray) (w : World) (hs : s.size ≤ maxLen) : Calls Try.prog 19 #[.string s] w fun e w' => e = .returned (.bool (nameL s.data.toList)) ∧ Below w.heap.size w w' := by
  have HW : Below w.heap.size w w := Below.refl _ _
  generalize hR : nameL s.data.toList = R
  have HR := Lib.hid hR
  clear hR
  have hlen : s.data.toList.length = s.size := rfl
  cases c1 : (kindR s.data.toList == 1)
  · have HK := Lib.hid (name_bad (l := s.data.toList) (fun e => by rw [e] at c1; simp at c1))
    go_enter Try.func19, Try.ntmps19
    go_wp2_with (go_at_call 24; refine (kind_any _ _ hs).mono ?_; rintro e w1 ⟨rfl, hb⟩; replace HW := below_on HW hb; clear hb)
    go_ret
    exact ⟨by rw [← HR.out, HK.out]; rfl, HW⟩
  by_cases h16 : 16 < s.size
  · have HK := Lib.hid (name_long (l := s.data.toList) h16)
    have hd : decide ((s.size : Int) ≤ (16 : Int)) = false := by simp; omega
    go_enter Try.func19, Try.ntmps19
    go_wp2_with (go_at_call 24; refine (kind_any _ _ hs).mono ?_; rintro e w1 ⟨rfl, hb⟩; replace HW := below_on HW hb; clear hb)
    go_ret
    exact ⟨by rw [← HR.out, HK.out]; rfl, HW⟩
  have hd : decide ((s.size : Int) ≤ (16 : Int)) = true := by simp; omega
  have HK := Lib.hid (name_in (l := s.data.toList) (by simpa using c1) (by omega))
  clear hlen h16
  generalize hkk : decide (s.data.toList ∈ keywords) = kk
  have HKK := Lib.hid hkk
  clear hkk
  cases kk
  all_goals
    go_enter Try.func19, Try.ntmps19
    go_wp2_with (first | (go_at_call 24; refine (kind_any _ _ hs).mono ?_; rintro e w1 ⟨rfl, hb⟩; replace HW := below_on HW hb; clear hb) | (go_at_call 22; refine (keywords_any _).mono ?_; rintro e w2 ⟨rfl, rfl⟩; replace HW := HW.alloc HW.size (.cells (keywords.map fun t => Value.string ⟨t.toArray⟩).toArray 9)) | (go_at_call 21; go_loud (refine (in_any _ _ keywords _ _ (lit_at keywords _ 9) (by decide)).mono ?_; rintro e w3 ⟨rfl, rfl⟩; rw [HKK.out])))
    go_ret
    exact ⟨by rw [← HR.out, HK.out, HKK.out]; rfl, HW⟩
end Go.Proofs.Yteofoakkgkhjcaa
