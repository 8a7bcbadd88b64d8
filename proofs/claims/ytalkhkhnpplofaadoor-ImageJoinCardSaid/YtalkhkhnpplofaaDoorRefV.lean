/- The contract of the reference's test of validity. -/
import Derived.Test.YtalkhkhnpplofaaDoorRows
import Derived.WalkKit
import Derived.ProofKit
import Derived.OpenShut
import Derived.Below
import Derived.Lib.Hide
import Derived.Test.YtalkhkhnpplofaaDoorValid
import Derived.Outline
import Derived.Deep.RegionHeld3
import Derived.Deep.QuietTactic
import Derived.BigQuiet
import Derived.WalkSmall
import Derived.WalkLawsBesides
import Derived.WalkSpells
import Derived.Handy
namespace Go.Proofs.YtalkhkhnpplofaaDoor
open Go.ChangeShapes Go.WideShapes Go.ChangeAt Go.RowKit
set_option linter.unusedSimpArgs false
set_option linter.unusedVariables false
set_option maxHeartbeats 1000000 in
theorem get_any (k a b c d : Int) (j : Nat) (w : World) (hj : j < 4) :
    Calls Tryd.prog 50 #[.agg #[.int .u8 k, .int .i64 a, .int .i64 b, .int .i64 c, .int .i64 d], .int .i64 j] w fun e w' => e = .returned (.int .i64 (arg a b c d j)) ∧ Below w.heap.size w w' := by
  rcases (by omega : j = 0 ∨ j = 1 ∨ j = 2 ∨ j = 3) with rfl | rfl | rfl | rfl
  · have e : arg a b c d 0 = a := rfl
    rw [e]; clear e
    show Calls Tryd.prog 50 #[.agg #[.int .u8 k, .int .i64 a, .int .i64 b, .int .i64 c, .int .i64 d], .int .i64 0] w _
    go_enter Tryd.func50, Tryd.ntmps50
    go_wp2
    go_ret
    exact ⟨rfl, (Below.refl _ _).alloc (Nat.le_refl _) _⟩
  · have e : arg a b c d 1 = b := rfl
    rw [e]; clear e
    show Calls Tryd.prog 50 #[.agg #[.int .u8 k, .int .i64 a, .int .i64 b, .int .i64 c, .int .i64 d], .int .i64 1] w _
    go_enter Tryd.func50, Tryd.ntmps50
    go_wp2
    go_ret
    exact ⟨rfl, (Below.refl _ _).alloc (Nat.le_refl _) _⟩
  · have e : arg a b c d 2 = c := rfl
    rw [e]; clear e
    show Calls Tryd.prog 50 #[.agg #[.int .u8 k, .int .i64 a, .int .i64 b, .int .i64 c, .int .i64 d], .int .i64 2] w _
    go_enter Tryd.func50, Tryd.ntmps50
    go_wp2
    go_ret
    exact ⟨rfl, (Below.refl _ _).alloc (Nat.le_refl _) _⟩
  · have e : arg a b c d 3 = d := rfl
    rw [e]; clear e
    show Calls Tryd.prog 50 #[.agg #[.int .u8 k, .int .i64 a, .int .i64 b, .int .i64 c, .int .i64 d], .int .i64 3] w _
    go_enter Tryd.func50, Tryd.ntmps50
    go_wp2
    go_ret
    exact ⟨rfl, (Below.refl _ _).alloc (Nat.le_refl _) _⟩
theorem cell_on {w w' : World} {b o : Nat} {v : Value} (hb : Below w.heap.size w w') (h : w.cell? ⟨b, o, none⟩ = some v) : w'.cell? ⟨b, o, none⟩ = some v :=
  (hb.cell (p := ⟨b, o, none⟩) (World.block_lt_of_cell? w _ h)).trans h
theorem below_on {w0 w w' : World} (h : Below w0.heap.size w0 w) (hb : Below w.heap.size w w') : Below w0.heap.size w0 w' := h.trans (hb.mono h.size)
/-- the box of an instruction -/
def Box5 (p : Nat) (k a b c d : Int) (w : World) : Prop := w.cell? ⟨p, 0, none⟩ = some (.int .u8 k) ∧ w.cell? ⟨p, 1, none⟩ = some (.int .i64 a) ∧ w.cell? ⟨p, 2, none⟩ = some (.int .i64 b) ∧ w.cell? ⟨p, 3, none⟩ = some (.int .i64 c) ∧ w.cell? ⟨p, 4, none⟩ = some (.int .i64 d)
theorem Box5.drew {p : Nat} {k a b c d : Int} {w : World} (h : Box5 p k a b c d w) (n : Nat) : Box5 p k a b c d (w.drewN n) := h
set_option maxHeartbeats 4000000 in
theorem refValid_any (k a b c d : Int) (w : World) (h0 : 0 ≤ k ∧ k ≤ 255) :
    Calls Tryd.prog 36 #[.agg #[.int .u8 k, .int .i64 a, .int .i64 b, .int .i64 c, .int .i64 d]] w fun e w' => e = .returned (.bool (validB k a b c d)) ∧ Below w.heap.size w w' := by
  by_cases hk : k < 35
  · have hs := opS_size k
    have hkd : decide (k < 35) = true := by simpa using hk
    go_enter Tryd.func36, Tryd.ntmps36
    go_wp2_with (go_at_call 48; refine (shape_any _ _ h0.1).mono ?_; rintro e w' ⟨rfl, rfl⟩)
    obtain ⟨s, hS⟩ : ∃ s, s = opS k := ⟨_, rfl⟩
    have HS := Lib.hid hS
    rw [← hS] at hs ⊢
    clear hS
    obtain ⟨p, hp⟩ : ∃ p, p = w.heap.size := ⟨_, rfl⟩
    have HB : Box5 p k a b c d (w.alloc (.cells #[.int .u8 k, .int .i64 a, .int .i64 b, .int .i64 c, .int .i64 d] 39)) := by
      subst hp
      exact ⟨by go_simp, by go_simp, by go_simp, by go_simp, by go_simp⟩
    have HW : Below w.heap.size w (w.alloc (.cells #[.int .u8 k, .int .i64 a, .int .i64 b, .int .i64 c, .int .i64 d] 39)) := (Below.refl _ _).alloc (Nat.le_refl _) _
    rw [← hp]
    have HP := Lib.hid hp
    clear hp
    go_outline
    go_loopw [5] (fun i wr => ∃ j : Nat, j ≤ 4 ∧ i = .int .i64 j ∧ Pre s a b c d j ∧ Box5 p k a b c d wr ∧ Below w.heap.size w wr) (fun i _ => 4 - (intOf i).toNat)
    case atStart => exact ⟨0, by omega, rfl, Pre.nil _ _ _ _ _, HB, HW⟩
    case round =>
      clear HB HW
      obtain ⟨j, hj, rfl, HP, HB, HW⟩ := hrel
      by_cases hlt : j < 4
      · obtain ⟨c0, c1, c2, c3, c4⟩ := id HB
        by_cases hin : j < s.size
        · have hn1 : decide (s.size ≤ j) = false := by simpa using hin
          obtain ⟨r, hr⟩ : ∃ r, r = clsOk s[j].toNat (arg a b c d j) := ⟨_, rfl⟩
          cases r
          · have hr' : clsOk s[j].toNat (arg a b c d j) = false := hr.symm
            clear hr
            go_wp2_with fail
            go_region_held3 (fun w' => w'.cell? ⟨p, 0, none⟩ = some (.int .u8 k) ∧ w'.cell? ⟨p, 1, none⟩ = some (.int .i64 a) ∧ w'.cell? ⟨p, 2, none⟩ = some (.int .i64 b) ∧ w'.cell? ⟨p, 3, none⟩ = some (.int .i64 c) ∧ w'.cell? ⟨p, 4, none⟩ = some (.int .i64 d) ∧ Below w.heap.size w w')
              (first | exact ⟨c0, c1, c2, c3, c4, HW.drew⟩ | exact ⟨d0, d1, d2, d3, d4, HD⟩ | assumption)
              (first | (go_at_call 50; refine (get_any _ _ _ _ _ _ _ hlt).mono ?_; rintro e w2 ⟨rfl, hg⟩; have d0 := cell_on hg c0; have d1 := cell_on hg c1; have d2 := cell_on hg c2; have d3 := cell_on hg c3; have d4 := cell_on hg c4; have HD := below_on (HW.drew) hg) | (go_at_call 49; refine (fits_any _ _ _).mono ?_; rintro e w' ⟨rfl, rfl⟩))
            all_goals (go_wp2; go_ret; exact ⟨ret_bool (valid_bad (j := j) hlt (by rw [← HS.out, chk_in hin]; exact hr')).symm, by assumption⟩)
          · have hr' : clsOk s[j].toNat (arg a b c d j) = true := hr.symm
            clear hr
            go_wp2_with fail
            go_region_held3 (fun w' => w'.cell? ⟨p, 0, none⟩ = some (.int .u8 k) ∧ w'.cell? ⟨p, 1, none⟩ = some (.int .i64 a) ∧ w'.cell? ⟨p, 2, none⟩ = some (.int .i64 b) ∧ w'.cell? ⟨p, 3, none⟩ = some (.int .i64 c) ∧ w'.cell? ⟨p, 4, none⟩ = some (.int .i64 d) ∧ Below w.heap.size w w')
              (first | exact ⟨c0, c1, c2, c3, c4, HW.drew⟩ | exact ⟨d0, d1, d2, d3, d4, HD⟩ | assumption)
              (first | (go_at_call 50; refine (get_any _ _ _ _ _ _ _ hlt).mono ?_; rintro e w2 ⟨rfl, hg⟩; have d0 := cell_on hg c0; have d1 := cell_on hg c1; have d2 := cell_on hg c2; have d3 := cell_on hg c3; have d4 := cell_on hg c4; have HD := below_on (HW.drew) hg) | (go_at_call 49; refine (fits_any _ _ _).mono ?_; rintro e w' ⟨rfl, rfl⟩))
            all_goals (go_wp2; go_roundw)
            all_goals first | exact ⟨j + 1, by omega, by go_num, HP.succ hlt (by rw [chk_in hin]; exact hr'), ⟨d0, d1, d2, d3, d4⟩, HD⟩ | (simp [intOf]; omega)
        · have hn0 : decide (j < s.size) = false := by simpa using hin
          have hn1 : s.size ≤ j := by omega
          by_cases hx0 : arg a b c d j = 0
          · go_wp2_with fail
            go_quiet (fail)
            go_wp2_with (go_at_call 50; refine (get_any _ _ _ _ _ _ _ hlt).mono ?_; rintro e w2 ⟨rfl, hg⟩; have d0 := cell_on hg c0; have d1 := cell_on hg c1; have d2 := cell_on hg c2; have d3 := cell_on hg c3; have d4 := cell_on hg c4; have HD := below_on (below_drewN HW _) hg)
            go_roundw
            case rel => exact ⟨j + 1, by omega, by go_num, HP.succ hlt (by rw [chk_out hin]; simpa using hx0), ⟨d0, d1, d2, d3, d4⟩, HD⟩
            case measure => simp [intOf]; omega
          · have hb0 : (arg a b c d j != 0) = true := by simpa using hx0
            go_wp2_with fail
            go_quiet (fail)
            go_wp2_with (go_at_call 50; refine (get_any _ _ _ _ _ _ _ hlt).mono ?_; rintro e w2 ⟨rfl, hg⟩; have d0 := cell_on hg c0; have d1 := cell_on hg c1; have d2 := cell_on hg c2; have d3 := cell_on hg c3; have d4 := cell_on hg c4; have HD := below_on (below_drewN HW _) hg)
            go_ret
            exact ⟨ret_bool (valid_bad (j := j) hlt (by rw [← HS.out, chk_out hin]; simpa using hx0)).symm, HD⟩
      · obtain rfl : j = 4 := by omega
        obtain ⟨c0, c1, c2, c3, c4⟩ := id HB
        have HV := Lib.hid (valid_ok hk (HS.out ▸ HP))
        clear HP hj hlt HB
        by_cases h1 : k = 1
        · have hd : dif k a b c = (a != b) := by unfold dif; simp [h1]
          have HD := Lib.hid hd
          have tb : (k == 1) = true := by simpa using h1
          clear hd h1
          go_wp2
          go_ret
          exact ⟨ret_bool (by rw [HV.out, HD.out]), HW⟩
        by_cases h2 : k = 2
        · have hd : dif k a b c = (a != b) := by unfold dif; simp [h2]
          have HD := Lib.hid hd
          have tb : (k == 2) = true := by simpa using h2
          clear hd h2
          go_wp2
          go_ret
          exact ⟨ret_bool (by rw [HV.out, HD.out]), HW⟩
        by_cases h3 : k = 3
        · have hd : dif k a b c = (a != b) := by unfold dif; simp [h3]
          have HD := Lib.hid hd
          have tb : (k == 3) = true := by simpa using h3
          clear hd h3
          go_wp2
          go_ret
          exact ⟨ret_bool (by rw [HV.out, HD.out]), HW⟩
        by_cases h11 : k = 11
        · have hd : dif k a b c = (a != b) := by unfold dif; simp [h11]
          have HD := Lib.hid hd
          have tb : (k == 11) = true := by simpa using h11
          clear hd h11
          go_wp2
          go_ret
          exact ⟨ret_bool (by rw [HV.out, HD.out]), HW⟩
        by_cases h9 : k = 9
        · have hd : dif k a b c = (a != b && a != c) := by unfold dif; simp [h9]
          have HD := Lib.hid hd
          have tb : (k == 9) = true := by simpa using h9
          clear hd h9
          by_cases hab : a = b
          · have b1 : (a != b) = false := by simpa using hab
            have HA := Lib.hid b1
            clear hab
            go_wp2
            go_ret
            exact ⟨ret_bool (by rw [HV.out, HD.out, HA.out]; rfl), HW⟩
          · have b1 : (a != b) = true := by simpa using hab
            have HA := Lib.hid b1
            clear hab
            go_wp2
            go_ret
            exact ⟨ret_bool (by rw [HV.out, HD.out, HA.out]; rfl), HW⟩
        have hd : dif k a b c = true := by unfold dif; simp [h1, h2, h3, h11, h9]
        have HD := Lib.hid hd
        clear hd
        go_wp2
        go_ret
        exact ⟨ret_bool (by rw [HV.out, HD.out]), HW⟩
  · have hv : validB k a b c d = false := by unfold validB; simp [hk]
    have hkd : decide (k < 35) = false := by simpa using hk
    rw [hv]
    clear hv
    go_enter Tryd.func36, Tryd.ntmps36
    go_wp2_with (go_at_call 48; refine (shape_any _ _ h0.1).mono ?_; rintro e w' ⟨rfl, rfl⟩)
    go_ret
    exact ⟨rfl, (Below.refl _ _).alloc (Nat.le_refl _) _⟩
end Go.Proofs.YtalkhkhnpplofaaDoor
