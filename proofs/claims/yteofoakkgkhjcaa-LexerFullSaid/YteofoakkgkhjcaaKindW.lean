/- Contract: the reference's kind of a text. -/
import Derived.Test.YteofoakkgkhjcaaRows
import Derived.WalkKit
import Derived.ProofKit
import Derived.OpenShut
import Derived.Below
import Derived.Lib.Hide
import Derived.WalkSpells
import Derived.WalkLawsBesides
import Derived.Outline
import Derived.Test.YteofoakkgkhjcaaWords
import Derived.Deep.Cut
import Derived.Deep.CutRange
import Derived.Deep.QuietTactic
import Derived.BigQuiet
namespace Go.Proofs.Yteofoakkgkhjcaa
open Go.ChangeShapes Go.WideShapes Go.ChangeAt Go.RowKit
set_option linter.unusedSimpArgs false
set_option linter.unusedVariables false
theorem allB_succ (p : Int → Bool) : ∀ (l : List UInt8) (k : Nat) (h : k < l.length), allB p (l.take (k + 1)) = (allB p (l.take k) && p (l[k].toNat : Int)) := by
  intro l
  induction l with
  | nil => intro k h; simp at h
  | cons c l ih =>
    intro k h
    unfold allB at *
    cases k with
    | zero => simp
    | succ k =>
      rw [List.take_succ_cons, List.all_cons, List.take_succ_cons, List.all_cons, ih k (by simpa using h), Bool.and_assoc]
      rfl
set_option maxRecDepth 100000 in
set_option maxHeartbeats 2000000 in
theorem kind_any (s : ByteArray) (w : World) (hs : s.size ≤ maxLen) : Calls Try.prog 24 #[.string s] w fun e w' => e = .returned (.int .u8 (kindR s.data.toList)) ∧ Below w.heap.size w w' := by
  by_cases h0 : s.size = 0
  · have he : s = ⟨#[]⟩ := by
      apply Go.WideShapes.bytes_inj
      exact List.length_eq_zero_iff.1 h0
    subst he
    go_enter Try.func24, Try.ntmps24
    go_wp2
    go_ret
    exact ⟨rfl, Below.refl _ _⟩
  have hpos : 0 < s.size := by omega
  have hne : s.data.toList ≠ [] := fun e => h0 (by have := congrArg List.length e; exact this)
  have hsne : s.toList.isEmpty = false := by rw [Lib.toList_data]; simpa using hne
  have hd : (s.toList == ByteArray.toList ⟨#[]⟩) = false := by rw [Lib.toList_data]; simpa using hne
  have hh := Lib.hid (head_eq s hpos)
  have HNE := Lib.hid hne
  have H0 := Lib.hid h0
  have HS := Lib.hid hs
  clear hne h0
  go_enter Try.func24, Try.ntmps24
  go_upto_region 3 with fail
  go_quiet (first | (go_at_call 34; exact Calls.quiet_of_same ((letterR_any _ _).mono fun e w' h => ⟨h.1, h.2.symm⟩)))
  go_wp2
  go_loopw [3, 4, 5, 6, 7] (fun a b c d i wr => ∃ k : Nat, k ≤ s.size ∧ i = .int .i64 k ∧ (∃ bw bn bs bc : Bool, a = .bool bw ∧ b = .bool bn ∧ c = .bool bs ∧ d = .bool bc ∧
    Hid (bw = (isL (s[0].toNat : Int) && allB isW (s.data.toList.take k)) ∧ bn = allB isD (s.data.toList.take k) ∧ bs = allB isS (s.data.toList.take k) ∧ bc = (((s[0].toNat : Int) == 35) && allB isC (s.data.toList.take k)))) ∧ ∃ nd, wr = w.drewN nd) (fun _ _ _ _ i _ => s.size - (intOf i).toNat)
  case atStart => exact ⟨0, by omega, rfl, ⟨_, _, _, _, rfl, rfl, rfl, rfl, Lib.hid ⟨by simp [allB], by simp [allB], by simp [allB], by simp [allB]⟩⟩, _, rfl⟩
  case round =>
    obtain ⟨k, hk, rfl, ⟨bw, bn, bs, bc, rfl, rfl, rfl, rfl, HB⟩, nd, rfl⟩ := hrel
    by_cases hlt : k < s.size
    · have hd2 : decide (k < s.size) = true := by simpa using hlt
      generalize hcc : (s[k].toNat : Int) = c
      have HC := Lib.hid hcc
      go_upto_region 8 with fail
      go_cut [3] from 17 to 61 (fun v wx => v = .bool (bw && isW c) ∧ wx = w.drewN nd)
      case first =>
        cases bw
        · go_wp2
          go_meet
          case rel => exact ⟨rfl, rfl⟩
        · cases h1 : isL c
          · go_wp2_with (first | (go_at_call 34; refine (letterR_any _ _).mono ?_; rintro e w' ⟨rfl, rfl⟩) | (go_at_call 35; refine (digitR_any _ _).mono ?_; rintro e w' ⟨rfl, rfl⟩))
            all_goals (go_meet; case rel => exact ⟨by simp [isW, h1], rfl⟩)
          · go_wp2_with (first | (go_at_call 34; refine (letterR_any _ _).mono ?_; rintro e w' ⟨rfl, rfl⟩) | (go_at_call 35; refine (digitR_any _ _).mono ?_; rintro e w' ⟨rfl, rfl⟩))
            all_goals (go_meet; case rel => exact ⟨by simp [isW, h1], rfl⟩)
      case rest =>
        obtain ⟨rfl, rfl⟩ := hcut
        go_upto_region 9 with fail
        go_cut [4] from 17 to 61 (fun v wx => v = .bool (bn && isD c) ∧ wx = w.drewN nd)
        case first =>
          cases bn
          · go_wp2
            go_meet
            case rel => exact ⟨rfl, rfl⟩
          · go_wp2_with (first | (go_at_call 34; refine (letterR_any _ _).mono ?_; rintro e w' ⟨rfl, rfl⟩) | (go_at_call 35; refine (digitR_any _ _).mono ?_; rintro e w' ⟨rfl, rfl⟩))
            go_meet
            case rel => exact ⟨by simp, rfl⟩
        case rest =>
          obtain ⟨rfl, rfl⟩ := hcut
          go_upto_region 10 with fail
          go_cut [5] from 17 to 61 (fun v wx => v = .bool (bs && isS c) ∧ wx = w.drewN nd)
          case first =>
            cases bs
            · go_wp2
              go_meet
              case rel => exact ⟨rfl, rfl⟩
            · cases e1 : (c == 32)
              · cases e2 : (c == 9)
                · cases e3 : (c == 13)
                  · go_wp2
                    go_meet
                    case rel => exact ⟨by simp [isS, e1, e2, e3], rfl⟩
                  · go_wp2
                    go_meet
                    case rel => exact ⟨by simp [isS, e1, e2, e3], rfl⟩
                · go_wp2
                  go_meet
                  case rel => exact ⟨by simp [isS, e1, e2], rfl⟩
              · go_wp2
                go_meet
                case rel => exact ⟨by simp [isS, e1], rfl⟩
          case rest =>
            obtain ⟨rfl, rfl⟩ := hcut
            have FIN : ∀ (v : Value) (bc' : Bool), v = .bool bc' → bc' = (bc && isC c) → ∃ k' : Nat, k' ≤ s.size ∧ IntKind.i64.wrap ((k : Int) + 1) = (k' : Int) ∧ k' = k + 1 ∧ (∃ w1 w2 w3 w4 : Bool, (bw && isW c) = w1 ∧ (bn && isD c) = w2 ∧ (bs && isS c) = w3 ∧ bc' = w4 ∧ Hid (w1 = (isL (s[0].toNat : Int) && allB isW (s.data.toList.take k')) ∧ w2 = allB isD (s.data.toList.take k') ∧ w3 = allB isS (s.data.toList.take k') ∧ w4 = (((s[0].toNat : Int) == 35) && allB isC (s.data.toList.take k')))) := by
              intro v bc' _ hbc
              have hkl : k < s.data.toList.length := hlt
              have hcl : (s.data.toList[k].toNat : Int) = c := HC.out
              have hs' := HS.out
              refine ⟨k + 1, by omega, by rw [IntWalk.i64_in _ (by unfold maxLen at hs'; omega)]; rfl, rfl, _, _, _, _, rfl, rfl, rfl, rfl, Lib.hid ?_⟩
              obtain ⟨q1, q2, q3, q4⟩ := HB.out
              rw [hbc, q1, q2, q3, q4, allB_succ isW _ _ hkl, allB_succ isD _ _ hkl, allB_succ isS _ _ hkl, allB_succ isC _ _ hkl, hcl]
              simp only [Bool.and_assoc, and_self]
            cases bc
            · obtain ⟨k', g1, g2, g3, w1, w2, w3, w4, e1, e2, e3, e4, e5⟩ := FIN _ false rfl rfl
              clear FIN
              subst e4
              go_wp2
              go_roundw
              case rel => exact ⟨k', g1, by first | rw [g2] | go_num, ⟨w1, w2, w3, false, by rw [e1], by rw [e2], by rw [e3], rfl, e5⟩, _, rfl⟩
              case measure => simp [intOf]; omega
            · obtain ⟨k', g1, g2, g3, w1, w2, w3, w4, e1, e2, e3, e4, e5⟩ := FIN _ (c != 10) rfl rfl
              clear FIN
              subst e4
              go_wp2
              go_roundw
              case rel => exact ⟨k', g1, by first | rw [g2] | go_num, ⟨w1, w2, w3, _, by rw [e1], by rw [e2], by rw [e3], rfl, e5⟩, _, rfl⟩
              case measure => simp [intOf]; omega
    · have hd2 : decide (k < s.size) = false := by simpa using hlt
      obtain rfl : k = s.size := by omega
      have hfull : s.data.toList.take s.size = s.data.toList := List.take_length
      rw [hfull] at HB
      have HW : Below w.heap.size w (w.drewN nd) := below_drewN (Below.refl _ _) nd
      have hhd : s.data.toList.headD 0 = s[0] := hh.out
      by_cases k1 : bw = true
      · subst k1
        have hk : kindR s.data.toList = 1 := by
          unfold kindR; rw [if_neg HNE.out, hhd, if_pos HB.out.1.symm]
        have HK := Lib.hid hk
        clear hk hhd hfull
        go_wp2
        go_ret
        exact ⟨by rw [HK.out]; rfl, HW⟩
      obtain rfl : bw = false := by simpa using k1
      by_cases k2 : bn = true
      · subst k2
        have hk : kindR s.data.toList = 2 := by
          unfold kindR; rw [if_neg HNE.out, hhd, ← HB.out.1, if_neg (by simp), if_pos HB.out.2.1.symm]
        have HK := Lib.hid hk
        clear hk hhd hfull
        go_wp2
        go_ret
        exact ⟨by rw [HK.out]; rfl, HW⟩
      obtain rfl : bn = false := by simpa using k2
      have hAL := lit_at signs (w.drewN nd) 9
      have HAL := Lib.hid hAL
      clear hAL
      have HW2 : Below w.heap.size w ((w.drewN nd).alloc (.cells (signs.map fun t => Value.string ⟨t.toArray⟩).toArray 9)) := HW.alloc HW.size _
      have HWW := Lib.hid HW2
      clear HW2 HW
      by_cases k3 : s.data.toList ∈ signs
      · have hk : kindR s.data.toList = 3 := by
          unfold kindR; rw [if_neg HNE.out, hhd, ← HB.out.1, if_neg (by simp), ← HB.out.2.1, if_neg (by simp), if_pos k3]
        have HK := Lib.hid hk
        have hdec : decide (s.data.toList ∈ signs) = true := by simpa using k3
        clear hk hhd hfull k3
        go_wp2_with (first | (go_at_call 36; refine (signs_any _).mono ?_; rintro e w1 ⟨rfl, rfl⟩) | (go_at_call 21; refine (in_any _ _ signs _ _ HAL.out (by decide)).mono ?_; rintro e w2 ⟨rfl, rfl⟩; rw [hdec]))
        go_ret
        exact ⟨by rw [HK.out]; rfl, HWW.out⟩
      have hdec : decide (s.data.toList ∈ signs) = false := by simpa using k3
      have K3 := Lib.hid k3
      clear k3
      by_cases k4 : bs = true
      · subst k4
        have hk : kindR s.data.toList = 4 := by
          unfold kindR; rw [if_neg HNE.out, hhd, ← HB.out.1, if_neg (by simp), ← HB.out.2.1, if_neg (by simp), if_neg K3.out, if_pos HB.out.2.2.1.symm]
        have HK := Lib.hid hk
        clear hk hhd hfull
        go_wp2_with (first | (go_at_call 36; refine (signs_any _).mono ?_; rintro e w1 ⟨rfl, rfl⟩) | (go_at_call 21; refine (in_any _ _ signs _ _ HAL.out (by decide)).mono ?_; rintro e w2 ⟨rfl, rfl⟩; rw [hdec]))
        go_ret
        exact ⟨by rw [HK.out]; rfl, HWW.out⟩
      obtain rfl : bs = false := by simpa using k4
      have hk : kindR s.data.toList = if bc = true then 5 else 0 := by
        unfold kindR; rw [if_neg HNE.out, hhd, ← HB.out.1, if_neg (by simp), ← HB.out.2.1, if_neg (by simp), if_neg K3.out, ← HB.out.2.2.1, if_neg (by simp), ← HB.out.2.2.2]
      have HK := Lib.hid hk
      clear hk hhd hfull
      cases bc
      all_goals
        go_wp2_with (first | (go_at_call 36; refine (signs_any _).mono ?_; rintro e w1 ⟨rfl, rfl⟩) | (go_at_call 21; refine (in_any _ _ signs _ _ HAL.out (by decide)).mono ?_; rintro e w2 ⟨rfl, rfl⟩; rw [hdec]))
        go_ret
        exact ⟨by rw [HK.out]; rfl, HWW.out⟩
end Go.Proofs.Yteofoakkgkhjcaa
