/- The tied card of IsaUnused: it answers true for every instruction and every other opcode byte, where the table of instructions holds what the program's text lays in it. -/
import Derived.Test.YtgpcgkccfefdfaaDoorRows
import Derived.Test.YtgpcgkccfefdfaaDoorCards
import Derived.Test.YtgpcgkccfefdfaaDoorTie
import Derived.LaidMore
import Derived.Stop.Joined
import Derived.SevenTiedAt
import Derived.WalkKit
import Derived.ProofKit
import Derived.OpenShut
import Derived.ShutString
import Derived.ChangeOld
import Derived.Below
import Derived.Test.YtgpcgkccfefdfaaDoorInv
import Derived.Lib.Hide
import Derived.Deep.RegionHeld3
import Derived.Deep.QuietTactic
import Derived.BigQuiet
import Derived.WalkSmall
import Derived.Outline
namespace Go.Proofs.YtgpcgkccfefdfaaDoor.isaUnused
open Go.ChangeShapes Go.WideShapes Go.ChangeAt Go.RowKit
open Go.ChangeMaps (open_string shut_string)
set_option linter.unusedSimpArgs false
set_option linter.unusedVariables false

theorem own : ownKnob Tryd.prog.godebug = none := by kernel_rfl
theorem laidOut : laidOutB Tryd.prog = true := by kernel_rfl

/-- what the listed variables hold when the call begins -/
abbrev laidL {H : Type} : List (String × DataW H) := [("backstep/isa.table", Rows.laid_backstep_isa_table)]
theorem gno0 : Tryd.prog.globalNamed "backstep/isa.table" = some 0 := by kernel_rfl
theorem gty0 : (Tryd.prog.globals[0]?).map (·.type) = some 51 := by kernel_rfl
theorem door_met (os : Os) (args : Array Value) : laidMetH Tryd.prog laidL ((World.doorLaid Tryd.prog 400 os).forCall (fun _ _ => 0) ⟨#[], args, []⟩).memory :=
  laidMetH_of_parts3 (fuel := 8) (laidMet_of_run' 8 (by kernel_rfl) (by kernel_rfl)) (by kernel_rfl) (by kernel_rfl)
theorem zeros {k a b c d : Int} (h : validB k a b c d = true) (j : Nat) (hj : j < 4) (hn : (opS k).size ≤ j) : arg a b c d j = 0 := by
  have hc : chk (opS k) (arg a b c d j) j = true := by
    unfold validB at h
    simp only [Bool.and_eq_true] at h
    obtain ⟨_, h0, h1, h2, h3, _⟩ := h
    rcases (by omega : j = 0 ∨ j = 1 ∨ j = 2 ∨ j = 3) with rfl | rfl | rfl | rfl
    · exact h0
    · exact h1
    · exact h2
    · exact h3
  rw [chk_out (by omega)] at hc
  simpa using hc
theorem mn_ne (n : Nat) (h : n < 35) : ¬ (mnS (n : Int)).toList = [] := by
  have hd : ∀ n : Nat, n < 35 → ¬ (mnS (n : Int)).toList = [] := by decide +kernel
  exact hd n h
theorem mn_nil (k : Int) (h : 35 ≤ k) : (mnS k).toList = [] := by rw [mnS_none k h]; decide +kernel
theorem mn_inj (n m : Nat) (hn : n < 35) (hm : m < 35) (hne : n ≠ m) : ¬ (mnS (n : Int)).toList = (mnS (m : Int)).toList := by
  have hd : ∀ n : Nat, n < 35 → ∀ m : Nat, m < 35 → n ≠ m → ¬ (mnS (n : Int)).toList = (mnS (m : Int)).toList := by decide +kernel
  exact hd n hn m hm hne
theorem mn_full (k : Int) (h0 : 0 ≤ k) (h : k < 35) : ¬ (mnS k).toList = [] := by
  obtain ⟨n, rfl⟩ : ∃ n : Nat, k = n := ⟨k.toNat, by omega⟩
  exact mn_ne n (by omega)
theorem mn_apart (k m : Int) (h0 : 0 ≤ k) (h : k < 35) (h1 : 0 ≤ m) (hne : ¬ k = m) : ((mnS k).toList == (mnS m).toList) = false := by
  obtain ⟨n, rfl⟩ : ∃ n : Nat, k = n := ⟨k.toNat, by omega⟩
  obtain ⟨o, rfl⟩ : ∃ n : Nat, m = n := ⟨m.toNat, by omega⟩
  simp only [beq_eq_false_iff_ne, ne_eq]
  by_cases ho : o < 35
  · exact mn_inj n o (by omega) ho (by omega)
  · rw [mn_nil (o : Int) (by omega)]; exact mn_ne n (by omega)
theorem mn_apart' (k m : Int) (h : 35 ≤ k) (h1 : 0 ≤ m) (hm : m < 35) : ((mnS k).toList == (mnS m).toList) = false := by
  rw [mn_nil _ h]
  have := mn_full m h1 hm
  simp only [beq_eq_false_iff_ne, ne_eq]
  exact fun e => this e.symm
theorem valid_none (k a b c d : Int) (h : 35 ≤ k) : validB k a b c d = false := by
  unfold validB; rw [decide_eq_false (by omega)]; rfl

def Laid (W : World) : Prop := Go.Proofs.YtgpcgkccfefdfaaDoor.Laid W
theorem of_laid {W : World} (h : laidMetH Tryd.prog laidL W) : Laid W := by
  rw [MakeChecks.laidMetH_plain _ _ _ (by kernel_rfl)] at h
  obtain ⟨ps, ⟨g0, t0, cs0, f0, p0, q0, hg0, ht0, hv0, hd0, _, _⟩, _, _⟩ := h
  obtain rfl := Option.some.inj (gno0.symm.trans hg0)
  obtain rfl := Option.some.inj (gty0.symm.trans ht0)
  intro n hn
  have hd : DataW.trod (fun _ : TypeId × Value => ()) Tryd.prog W 0 (fun _ => true) false f0 51 cs0.toList = some (Rows.laid_backstep_isa_table, p0) := hd0
  have hr := pair_at Tryd.underlying51 Tryd.underlying41 (by kernel_rfl) (by kernel_rfl) Tryd.underlying9 ⟨rfl, rfl⟩ ⟨rfl, rfl⟩ hd n _ _ (table_at n hn)
  rw [Array.getElem?_toList, Array.getElem?_toList] at hr
  exact ⟨(World.var?_cell hg0 hv0 (n * 2)).trans hr.1, (World.var?_cell hg0 hv0 (n * 2 + 1)).trans hr.2⟩

set_option maxHeartbeats 8000000 in
theorem walk (k a b c d : Int) (a1 : Int) (w : World) (wk : (Lit.int .u8 k).wf = true) (w1 : (Lit.int .u8 a1).wf = true) (hL : Laid w) :
    Calls Tryd.prog 10 #[.agg #[.int .u8 k, .int .i64 a, .int .i64 b, .int .i64 c, .int .i64 d], .int .u8 a1] w fun e w' => e = .returned (.bool true) ∧ Below w.heap.size w w' := by
  have bk := bounds_u8 wk
  have HL := Lib.hid (hL.alloc (.cells #[.int .u8 k, .int .i64 a, .int .i64 b, .int .i64 c, .int .i64 d] 23))
  have HB : Below w.heap.size w (w.alloc (.cells #[.int .u8 k, .int .i64 a, .int .i64 b, .int .i64 c, .int .i64 d] 23)) := (Below.refl _ _).alloc (Nat.le_refl _) _
  clear hL
  obtain ⟨p, hp⟩ : ∃ p, p = w.heap.size := ⟨_, rfl⟩
  have c0 : (w.alloc (.cells #[.int .u8 k, .int .i64 a, .int .i64 b, .int .i64 c, .int .i64 d] 23)).cell? ⟨p, 0, none⟩ = some (.int .u8 k) := by rw [hp, World.cell?_alloc_at _ _ _ _ rfl]; rfl
  have c1 : (w.alloc (.cells #[.int .u8 k, .int .i64 a, .int .i64 b, .int .i64 c, .int .i64 d] 23)).cell? ⟨p, 1, none⟩ = some (.int .i64 a) := by rw [hp, World.cell?_alloc_at _ _ _ _ rfl]; rfl
  have c2 : (w.alloc (.cells #[.int .u8 k, .int .i64 a, .int .i64 b, .int .i64 c, .int .i64 d] 23)).cell? ⟨p, 2, none⟩ = some (.int .i64 b) := by rw [hp, World.cell?_alloc_at _ _ _ _ rfl]; rfl
  have c3 : (w.alloc (.cells #[.int .u8 k, .int .i64 a, .int .i64 b, .int .i64 c, .int .i64 d] 23)).cell? ⟨p, 3, none⟩ = some (.int .i64 c) := by rw [hp, World.cell?_alloc_at _ _ _ _ rfl]; rfl
  have c4 : (w.alloc (.cells #[.int .u8 k, .int .i64 a, .int .i64 b, .int .i64 c, .int .i64 d] 23)).cell? ⟨p, 4, none⟩ = some (.int .i64 d) := by rw [hp, World.cell?_alloc_at _ _ _ _ rfl]; rfl
  rw [hp] at c0 c1 c2 c3 c4
  clear hp
  have b1 := bounds_u8 w1
  have hn := opS_size k
  clear w1
  by_cases hk : k < 35
  · have ek := mn_full k bk.1 hk
    by_cases he : k = a1
    · subst he
      clear hk
      cases hv : validB k a b c d
      · skip
        go_enter Tryd.func10, Tryd.ntmps10
        go_wp2_with (first | (go_at_call 11; refine (awake_any _ HL.out).mono ?_; rintro e w1 ⟨rfl, hb⟩; replace HL := Lib.hid (Laid.below HL.out hb); replace HB := below_on HB hb; replace c0 := cell_on hb c0; replace c1 := cell_on hb c1; replace c2 := cell_on hb c2; replace c3 := cell_on hb c3; replace c4 := cell_on hb c4; have hz := World.block_lt_of_cell? _ _ c0; clear hb) | (go_at_call 19; refine (operands_any _ _ (by omega) HL.out).mono ?_; rintro e w1 ⟨rfl, hb⟩; replace HL := Lib.hid (Laid.below HL.out hb); replace HB := below_on HB hb; replace c0 := cell_on hb c0; replace c1 := cell_on hb c1; replace c2 := cell_on hb c2; replace c3 := cell_on hb c3; replace c4 := cell_on hb c4; have hz := World.block_lt_of_cell? _ _ c0; clear hb))
        have HL2 := Lib.hid (HL.out.alloc (.cells #[.int .i64 a, .int .i64 b, .int .i64 c, .int .i64 d] 3))
        have HB2 := HB.alloc (Nat.le_of_lt hz) (.cells #[.int .i64 a, .int .i64 b, .int .i64 c, .int .i64 d] 3)
        have x0 := (World.cell?_alloc_past (w := w1) (.cells #[.int .i64 a, .int .i64 b, .int .i64 c, .int .i64 d] 3) _ _ (World.block_lt_of_cell? _ _ c0)).trans c0
        have x1 := (World.cell?_alloc_past (w := w1) (.cells #[.int .i64 a, .int .i64 b, .int .i64 c, .int .i64 d] 3) _ _ (World.block_lt_of_cell? _ _ c1)).trans c1
        have x2 := (World.cell?_alloc_past (w := w1) (.cells #[.int .i64 a, .int .i64 b, .int .i64 c, .int .i64 d] 3) _ _ (World.block_lt_of_cell? _ _ c2)).trans c2
        have x3 := (World.cell?_alloc_past (w := w1) (.cells #[.int .i64 a, .int .i64 b, .int .i64 c, .int .i64 d] 3) _ _ (World.block_lt_of_cell? _ _ c3)).trans c3
        have x4 := (World.cell?_alloc_past (w := w1) (.cells #[.int .i64 a, .int .i64 b, .int .i64 c, .int .i64 d] 3) _ _ (World.block_lt_of_cell? _ _ c4)).trans c4
        have y0 : (w1.alloc (.cells #[.int .i64 a, .int .i64 b, .int .i64 c, .int .i64 d] 3)).cell? ⟨w1.heap.size, 0, none⟩ = some (.int .i64 a) := by rw [World.cell?_alloc_at _ _ _ _ rfl]; rfl
        have y1 : (w1.alloc (.cells #[.int .i64 a, .int .i64 b, .int .i64 c, .int .i64 d] 3)).cell? ⟨w1.heap.size, 1, none⟩ = some (.int .i64 b) := by rw [World.cell?_alloc_at _ _ _ _ rfl]; rfl
        have y2 : (w1.alloc (.cells #[.int .i64 a, .int .i64 b, .int .i64 c, .int .i64 d] 3)).cell? ⟨w1.heap.size, 2, none⟩ = some (.int .i64 c) := by rw [World.cell?_alloc_at _ _ _ _ rfl]; rfl
        have y3 : (w1.alloc (.cells #[.int .i64 a, .int .i64 b, .int .i64 c, .int .i64 d] 3)).cell? ⟨w1.heap.size, 3, none⟩ = some (.int .i64 d) := by rw [World.cell?_alloc_at _ _ _ _ rfl]; rfl
        clear c0 c1 c2 c3 c4 HL HB hz
        generalize w1.alloc (.cells #[.int .i64 a, .int .i64 b, .int .i64 c, .int .i64 d] 3) = w2 at *
        generalize w1.heap.size = q at *
        go_wp2_with (first | (go_at_call 12; refine (valid_any _ _ _ _ _ _ (by first | exact bk | exact b1) HL2.out).mono ?_; rintro e w1 ⟨rfl, hb⟩; replace HL2 := Lib.hid (Laid.below HL2.out hb); replace HB2 := below_on HB2 hb; replace x0 := cell_on hb x0; replace x1 := cell_on hb x1; replace x2 := cell_on hb x2; replace x3 := cell_on hb x3; replace x4 := cell_on hb x4; replace y0 := cell_on hb y0; replace y1 := cell_on hb y1; replace y2 := cell_on hb y2; replace y3 := cell_on hb y3; clear hb) | (go_at_call 17; refine (mnemonic_any _ _ (by first | exact bk | exact b1) HL2.out).mono ?_; rintro e w1 ⟨rfl, hb⟩; replace HL2 := Lib.hid (Laid.below HL2.out hb); replace HB2 := below_on HB2 hb; replace x0 := cell_on hb x0; replace x1 := cell_on hb x1; replace x2 := cell_on hb x2; replace x3 := cell_on hb x3; replace x4 := cell_on hb x4; replace y0 := cell_on hb y0; replace y1 := cell_on hb y1; replace y2 := cell_on hb y2; replace y3 := cell_on hb y3; clear hb))
        go_ret
        exact ⟨by simp <;> omega, HB2⟩
      · skip
        have HZ := Lib.hid (fun j hj hn => zeros hv j hj hn)
        go_enter Tryd.func10, Tryd.ntmps10
        go_wp2_with (first | (go_at_call 11; refine (awake_any _ HL.out).mono ?_; rintro e w1 ⟨rfl, hb⟩; replace HL := Lib.hid (Laid.below HL.out hb); replace HB := below_on HB hb; replace c0 := cell_on hb c0; replace c1 := cell_on hb c1; replace c2 := cell_on hb c2; replace c3 := cell_on hb c3; replace c4 := cell_on hb c4; have hz := World.block_lt_of_cell? _ _ c0; clear hb) | (go_at_call 19; refine (operands_any _ _ (by omega) HL.out).mono ?_; rintro e w1 ⟨rfl, hb⟩; replace HL := Lib.hid (Laid.below HL.out hb); replace HB := below_on HB hb; replace c0 := cell_on hb c0; replace c1 := cell_on hb c1; replace c2 := cell_on hb c2; replace c3 := cell_on hb c3; replace c4 := cell_on hb c4; have hz := World.block_lt_of_cell? _ _ c0; clear hb))
        have HL2 := Lib.hid (HL.out.alloc (.cells #[.int .i64 a, .int .i64 b, .int .i64 c, .int .i64 d] 3))
        have HB2 := HB.alloc (Nat.le_of_lt hz) (.cells #[.int .i64 a, .int .i64 b, .int .i64 c, .int .i64 d] 3)
        have x0 := (World.cell?_alloc_past (w := w1) (.cells #[.int .i64 a, .int .i64 b, .int .i64 c, .int .i64 d] 3) _ _ (World.block_lt_of_cell? _ _ c0)).trans c0
        have x1 := (World.cell?_alloc_past (w := w1) (.cells #[.int .i64 a, .int .i64 b, .int .i64 c, .int .i64 d] 3) _ _ (World.block_lt_of_cell? _ _ c1)).trans c1
        have x2 := (World.cell?_alloc_past (w := w1) (.cells #[.int .i64 a, .int .i64 b, .int .i64 c, .int .i64 d] 3) _ _ (World.block_lt_of_cell? _ _ c2)).trans c2
        have x3 := (World.cell?_alloc_past (w := w1) (.cells #[.int .i64 a, .int .i64 b, .int .i64 c, .int .i64 d] 3) _ _ (World.block_lt_of_cell? _ _ c3)).trans c3
        have x4 := (World.cell?_alloc_past (w := w1) (.cells #[.int .i64 a, .int .i64 b, .int .i64 c, .int .i64 d] 3) _ _ (World.block_lt_of_cell? _ _ c4)).trans c4
        have y0 : (w1.alloc (.cells #[.int .i64 a, .int .i64 b, .int .i64 c, .int .i64 d] 3)).cell? ⟨w1.heap.size, 0, none⟩ = some (.int .i64 a) := by rw [World.cell?_alloc_at _ _ _ _ rfl]; rfl
        have y1 : (w1.alloc (.cells #[.int .i64 a, .int .i64 b, .int .i64 c, .int .i64 d] 3)).cell? ⟨w1.heap.size, 1, none⟩ = some (.int .i64 b) := by rw [World.cell?_alloc_at _ _ _ _ rfl]; rfl
        have y2 : (w1.alloc (.cells #[.int .i64 a, .int .i64 b, .int .i64 c, .int .i64 d] 3)).cell? ⟨w1.heap.size, 2, none⟩ = some (.int .i64 c) := by rw [World.cell?_alloc_at _ _ _ _ rfl]; rfl
        have y3 : (w1.alloc (.cells #[.int .i64 a, .int .i64 b, .int .i64 c, .int .i64 d] 3)).cell? ⟨w1.heap.size, 3, none⟩ = some (.int .i64 d) := by rw [World.cell?_alloc_at _ _ _ _ rfl]; rfl
        clear c0 c1 c2 c3 c4 HL HB hz
        generalize w1.alloc (.cells #[.int .i64 a, .int .i64 b, .int .i64 c, .int .i64 d] 3) = w2 at *
        generalize w1.heap.size = q at *
        go_wp2_with (first | (go_at_call 12; refine (valid_any _ _ _ _ _ _ (by first | exact bk | exact b1) HL2.out).mono ?_; rintro e w1 ⟨rfl, hb⟩; replace HL2 := Lib.hid (Laid.below HL2.out hb); replace HB2 := below_on HB2 hb; replace x0 := cell_on hb x0; replace x1 := cell_on hb x1; replace x2 := cell_on hb x2; replace x3 := cell_on hb x3; replace x4 := cell_on hb x4; replace y0 := cell_on hb y0; replace y1 := cell_on hb y1; replace y2 := cell_on hb y2; replace y3 := cell_on hb y3; clear hb))
        go_loop [7] (fun i => ∃ j : Nat, (opS k).size ≤ j ∧ j ≤ 4 ∧ i = .int .i64 j) (fun i => 4 - (intOf i).toNat)
        case atStart => exact ⟨_, Nat.le_refl _, hn, rfl⟩
        case round =>
          obtain ⟨j, hj1, hj2, rfl⟩ := hrel
          by_cases hlt : j < 4
          · have hz0 := HZ.out j hlt hj1
            have hcj : w1.cell? ⟨q, j, none⟩ = some (.int .i64 0) := by
              rcases (by omega : j = 0 ∨ j = 1 ∨ j = 2 ∨ j = 3) with rfl | rfl | rfl | rfl
              · rw [y0]; simp [arg] at hz0; rw [hz0]
              · rw [y1]; simp [arg] at hz0; rw [hz0]
              · rw [y2]; simp [arg] at hz0; rw [hz0]
              · rw [y3]; simp [arg] at hz0; rw [hz0]
            clear hz0
            go_wp2
            go_round
            case rel => exact ⟨j + 1, by omega, by omega, by go_num⟩
            case measure => simp [intOf]; omega
          · obtain rfl : j = 4 := by omega
            go_wp2_with (first | (go_at_call 12; refine (valid_any _ _ _ _ _ _ (by first | exact bk | exact b1) HL2.out).mono ?_; rintro e w1 ⟨rfl, hb⟩; replace HL2 := Lib.hid (Laid.below HL2.out hb); replace HB2 := below_on HB2 hb; replace x0 := cell_on hb x0; replace x1 := cell_on hb x1; replace x2 := cell_on hb x2; replace x3 := cell_on hb x3; replace x4 := cell_on hb x4; replace y0 := cell_on hb y0; replace y1 := cell_on hb y1; replace y2 := cell_on hb y2; replace y3 := cell_on hb y3; clear hb) | (go_at_call 17; refine (mnemonic_any _ _ (by first | exact bk | exact b1) HL2.out).mono ?_; rintro e w1 ⟨rfl, hb⟩; replace HL2 := Lib.hid (Laid.below HL2.out hb); replace HB2 := below_on HB2 hb; replace x0 := cell_on hb x0; replace x1 := cell_on hb x1; replace x2 := cell_on hb x2; replace x3 := cell_on hb x3; replace x4 := cell_on hb x4; replace y0 := cell_on hb y0; replace y1 := cell_on hb y1; replace y2 := cell_on hb y2; replace y3 := cell_on hb y3; clear hb))
            go_ret
            exact ⟨by simp <;> omega, HB2⟩
    · have eq := mn_apart k a1 bk.1 hk b1.1 he
      have kk : (k == a1) = false := by simpa using he
      clear hk he
      cases hv : validB k a b c d
      · skip
        go_enter Tryd.func10, Tryd.ntmps10
        go_wp2_with (first | (go_at_call 11; refine (awake_any _ HL.out).mono ?_; rintro e w1 ⟨rfl, hb⟩; replace HL := Lib.hid (Laid.below HL.out hb); replace HB := below_on HB hb; replace c0 := cell_on hb c0; replace c1 := cell_on hb c1; replace c2 := cell_on hb c2; replace c3 := cell_on hb c3; replace c4 := cell_on hb c4; have hz := World.block_lt_of_cell? _ _ c0; clear hb) | (go_at_call 19; refine (operands_any _ _ (by omega) HL.out).mono ?_; rintro e w1 ⟨rfl, hb⟩; replace HL := Lib.hid (Laid.below HL.out hb); replace HB := below_on HB hb; replace c0 := cell_on hb c0; replace c1 := cell_on hb c1; replace c2 := cell_on hb c2; replace c3 := cell_on hb c3; replace c4 := cell_on hb c4; have hz := World.block_lt_of_cell? _ _ c0; clear hb))
        have HL2 := Lib.hid (HL.out.alloc (.cells #[.int .i64 a, .int .i64 b, .int .i64 c, .int .i64 d] 3))
        have HB2 := HB.alloc (Nat.le_of_lt hz) (.cells #[.int .i64 a, .int .i64 b, .int .i64 c, .int .i64 d] 3)
        have x0 := (World.cell?_alloc_past (w := w1) (.cells #[.int .i64 a, .int .i64 b, .int .i64 c, .int .i64 d] 3) _ _ (World.block_lt_of_cell? _ _ c0)).trans c0
        have x1 := (World.cell?_alloc_past (w := w1) (.cells #[.int .i64 a, .int .i64 b, .int .i64 c, .int .i64 d] 3) _ _ (World.block_lt_of_cell? _ _ c1)).trans c1
        have x2 := (World.cell?_alloc_past (w := w1) (.cells #[.int .i64 a, .int .i64 b, .int .i64 c, .int .i64 d] 3) _ _ (World.block_lt_of_cell? _ _ c2)).trans c2
        have x3 := (World.cell?_alloc_past (w := w1) (.cells #[.int .i64 a, .int .i64 b, .int .i64 c, .int .i64 d] 3) _ _ (World.block_lt_of_cell? _ _ c3)).trans c3
        have x4 := (World.cell?_alloc_past (w := w1) (.cells #[.int .i64 a, .int .i64 b, .int .i64 c, .int .i64 d] 3) _ _ (World.block_lt_of_cell? _ _ c4)).trans c4
        have y0 : (w1.alloc (.cells #[.int .i64 a, .int .i64 b, .int .i64 c, .int .i64 d] 3)).cell? ⟨w1.heap.size, 0, none⟩ = some (.int .i64 a) := by rw [World.cell?_alloc_at _ _ _ _ rfl]; rfl
        have y1 : (w1.alloc (.cells #[.int .i64 a, .int .i64 b, .int .i64 c, .int .i64 d] 3)).cell? ⟨w1.heap.size, 1, none⟩ = some (.int .i64 b) := by rw [World.cell?_alloc_at _ _ _ _ rfl]; rfl
        have y2 : (w1.alloc (.cells #[.int .i64 a, .int .i64 b, .int .i64 c, .int .i64 d] 3)).cell? ⟨w1.heap.size, 2, none⟩ = some (.int .i64 c) := by rw [World.cell?_alloc_at _ _ _ _ rfl]; rfl
        have y3 : (w1.alloc (.cells #[.int .i64 a, .int .i64 b, .int .i64 c, .int .i64 d] 3)).cell? ⟨w1.heap.size, 3, none⟩ = some (.int .i64 d) := by rw [World.cell?_alloc_at _ _ _ _ rfl]; rfl
        clear c0 c1 c2 c3 c4 HL HB hz
        generalize w1.alloc (.cells #[.int .i64 a, .int .i64 b, .int .i64 c, .int .i64 d] 3) = w2 at *
        generalize w1.heap.size = q at *
        go_wp2_with (first | (go_at_call 12; refine (valid_any _ _ _ _ _ _ (by first | exact bk | exact b1) HL2.out).mono ?_; rintro e w1 ⟨rfl, hb⟩; replace HL2 := Lib.hid (Laid.below HL2.out hb); replace HB2 := below_on HB2 hb; replace x0 := cell_on hb x0; replace x1 := cell_on hb x1; replace x2 := cell_on hb x2; replace x3 := cell_on hb x3; replace x4 := cell_on hb x4; replace y0 := cell_on hb y0; replace y1 := cell_on hb y1; replace y2 := cell_on hb y2; replace y3 := cell_on hb y3; clear hb) | (go_at_call 17; refine (mnemonic_any _ _ (by first | exact bk | exact b1) HL2.out).mono ?_; rintro e w1 ⟨rfl, hb⟩; replace HL2 := Lib.hid (Laid.below HL2.out hb); replace HB2 := below_on HB2 hb; replace x0 := cell_on hb x0; replace x1 := cell_on hb x1; replace x2 := cell_on hb x2; replace x3 := cell_on hb x3; replace x4 := cell_on hb x4; replace y0 := cell_on hb y0; replace y1 := cell_on hb y1; replace y2 := cell_on hb y2; replace y3 := cell_on hb y3; clear hb))
        go_ret
        exact ⟨by simp <;> omega, HB2⟩
      · skip
        have HZ := Lib.hid (fun j hj hn => zeros hv j hj hn)
        go_enter Tryd.func10, Tryd.ntmps10
        go_wp2_with (first | (go_at_call 11; refine (awake_any _ HL.out).mono ?_; rintro e w1 ⟨rfl, hb⟩; replace HL := Lib.hid (Laid.below HL.out hb); replace HB := below_on HB hb; replace c0 := cell_on hb c0; replace c1 := cell_on hb c1; replace c2 := cell_on hb c2; replace c3 := cell_on hb c3; replace c4 := cell_on hb c4; have hz := World.block_lt_of_cell? _ _ c0; clear hb) | (go_at_call 19; refine (operands_any _ _ (by omega) HL.out).mono ?_; rintro e w1 ⟨rfl, hb⟩; replace HL := Lib.hid (Laid.below HL.out hb); replace HB := below_on HB hb; replace c0 := cell_on hb c0; replace c1 := cell_on hb c1; replace c2 := cell_on hb c2; replace c3 := cell_on hb c3; replace c4 := cell_on hb c4; have hz := World.block_lt_of_cell? _ _ c0; clear hb))
        have HL2 := Lib.hid (HL.out.alloc (.cells #[.int .i64 a, .int .i64 b, .int .i64 c, .int .i64 d] 3))
        have HB2 := HB.alloc (Nat.le_of_lt hz) (.cells #[.int .i64 a, .int .i64 b, .int .i64 c, .int .i64 d] 3)
        have x0 := (World.cell?_alloc_past (w := w1) (.cells #[.int .i64 a, .int .i64 b, .int .i64 c, .int .i64 d] 3) _ _ (World.block_lt_of_cell? _ _ c0)).trans c0
        have x1 := (World.cell?_alloc_past (w := w1) (.cells #[.int .i64 a, .int .i64 b, .int .i64 c, .int .i64 d] 3) _ _ (World.block_lt_of_cell? _ _ c1)).trans c1
        have x2 := (World.cell?_alloc_past (w := w1) (.cells #[.int .i64 a, .int .i64 b, .int .i64 c, .int .i64 d] 3) _ _ (World.block_lt_of_cell? _ _ c2)).trans c2
        have x3 := (World.cell?_alloc_past (w := w1) (.cells #[.int .i64 a, .int .i64 b, .int .i64 c, .int .i64 d] 3) _ _ (World.block_lt_of_cell? _ _ c3)).trans c3
        have x4 := (World.cell?_alloc_past (w := w1) (.cells #[.int .i64 a, .int .i64 b, .int .i64 c, .int .i64 d] 3) _ _ (World.block_lt_of_cell? _ _ c4)).trans c4
        have y0 : (w1.alloc (.cells #[.int .i64 a, .int .i64 b, .int .i64 c, .int .i64 d] 3)).cell? ⟨w1.heap.size, 0, none⟩ = some (.int .i64 a) := by rw [World.cell?_alloc_at _ _ _ _ rfl]; rfl
        have y1 : (w1.alloc (.cells #[.int .i64 a, .int .i64 b, .int .i64 c, .int .i64 d] 3)).cell? ⟨w1.heap.size, 1, none⟩ = some (.int .i64 b) := by rw [World.cell?_alloc_at _ _ _ _ rfl]; rfl
        have y2 : (w1.alloc (.cells #[.int .i64 a, .int .i64 b, .int .i64 c, .int .i64 d] 3)).cell? ⟨w1.heap.size, 2, none⟩ = some (.int .i64 c) := by rw [World.cell?_alloc_at _ _ _ _ rfl]; rfl
        have y3 : (w1.alloc (.cells #[.int .i64 a, .int .i64 b, .int .i64 c, .int .i64 d] 3)).cell? ⟨w1.heap.size, 3, none⟩ = some (.int .i64 d) := by rw [World.cell?_alloc_at _ _ _ _ rfl]; rfl
        clear c0 c1 c2 c3 c4 HL HB hz
        generalize w1.alloc (.cells #[.int .i64 a, .int .i64 b, .int .i64 c, .int .i64 d] 3) = w2 at *
        generalize w1.heap.size = q at *
        go_wp2_with (first | (go_at_call 12; refine (valid_any _ _ _ _ _ _ (by first | exact bk | exact b1) HL2.out).mono ?_; rintro e w1 ⟨rfl, hb⟩; replace HL2 := Lib.hid (Laid.below HL2.out hb); replace HB2 := below_on HB2 hb; replace x0 := cell_on hb x0; replace x1 := cell_on hb x1; replace x2 := cell_on hb x2; replace x3 := cell_on hb x3; replace x4 := cell_on hb x4; replace y0 := cell_on hb y0; replace y1 := cell_on hb y1; replace y2 := cell_on hb y2; replace y3 := cell_on hb y3; clear hb))
        go_loop [7] (fun i => ∃ j : Nat, (opS k).size ≤ j ∧ j ≤ 4 ∧ i = .int .i64 j) (fun i => 4 - (intOf i).toNat)
        case atStart => exact ⟨_, Nat.le_refl _, hn, rfl⟩
        case round =>
          obtain ⟨j, hj1, hj2, rfl⟩ := hrel
          by_cases hlt : j < 4
          · have hz0 := HZ.out j hlt hj1
            have hcj : w1.cell? ⟨q, j, none⟩ = some (.int .i64 0) := by
              rcases (by omega : j = 0 ∨ j = 1 ∨ j = 2 ∨ j = 3) with rfl | rfl | rfl | rfl
              · rw [y0]; simp [arg] at hz0; rw [hz0]
              · rw [y1]; simp [arg] at hz0; rw [hz0]
              · rw [y2]; simp [arg] at hz0; rw [hz0]
              · rw [y3]; simp [arg] at hz0; rw [hz0]
            clear hz0
            go_wp2
            go_round
            case rel => exact ⟨j + 1, by omega, by omega, by go_num⟩
            case measure => simp [intOf]; omega
          · obtain rfl : j = 4 := by omega
            go_wp2_with (first | (go_at_call 12; refine (valid_any _ _ _ _ _ _ (by first | exact bk | exact b1) HL2.out).mono ?_; rintro e w1 ⟨rfl, hb⟩; replace HL2 := Lib.hid (Laid.below HL2.out hb); replace HB2 := below_on HB2 hb; replace x0 := cell_on hb x0; replace x1 := cell_on hb x1; replace x2 := cell_on hb x2; replace x3 := cell_on hb x3; replace x4 := cell_on hb x4; replace y0 := cell_on hb y0; replace y1 := cell_on hb y1; replace y2 := cell_on hb y2; replace y3 := cell_on hb y3; clear hb) | (go_at_call 17; refine (mnemonic_any _ _ (by first | exact bk | exact b1) HL2.out).mono ?_; rintro e w1 ⟨rfl, hb⟩; replace HL2 := Lib.hid (Laid.below HL2.out hb); replace HB2 := below_on HB2 hb; replace x0 := cell_on hb x0; replace x1 := cell_on hb x1; replace x2 := cell_on hb x2; replace x3 := cell_on hb x3; replace x4 := cell_on hb x4; replace y0 := cell_on hb y0; replace y1 := cell_on hb y1; replace y2 := cell_on hb y2; replace y3 := cell_on hb y3; clear hb))
            go_ret
            exact ⟨by simp <;> omega, HB2⟩
  · have ek := mn_nil k (by omega)
    have hv := valid_none k a b c d (by omega)
    by_cases he : k = a1
    · subst he
      clear hk
      go_enter Tryd.func10, Tryd.ntmps10
      go_wp2_with (first | (go_at_call 11; refine (awake_any _ HL.out).mono ?_; rintro e w1 ⟨rfl, hb⟩; replace HL := Lib.hid (Laid.below HL.out hb); replace HB := below_on HB hb; replace c0 := cell_on hb c0; replace c1 := cell_on hb c1; replace c2 := cell_on hb c2; replace c3 := cell_on hb c3; replace c4 := cell_on hb c4; have hz := World.block_lt_of_cell? _ _ c0; clear hb) | (go_at_call 19; refine (operands_any _ _ (by omega) HL.out).mono ?_; rintro e w1 ⟨rfl, hb⟩; replace HL := Lib.hid (Laid.below HL.out hb); replace HB := below_on HB hb; replace c0 := cell_on hb c0; replace c1 := cell_on hb c1; replace c2 := cell_on hb c2; replace c3 := cell_on hb c3; replace c4 := cell_on hb c4; have hz := World.block_lt_of_cell? _ _ c0; clear hb))
      have HL2 := Lib.hid (HL.out.alloc (.cells #[.int .i64 a, .int .i64 b, .int .i64 c, .int .i64 d] 3))
      have HB2 := HB.alloc (Nat.le_of_lt hz) (.cells #[.int .i64 a, .int .i64 b, .int .i64 c, .int .i64 d] 3)
      have x0 := (World.cell?_alloc_past (w := w1) (.cells #[.int .i64 a, .int .i64 b, .int .i64 c, .int .i64 d] 3) _ _ (World.block_lt_of_cell? _ _ c0)).trans c0
      have x1 := (World.cell?_alloc_past (w := w1) (.cells #[.int .i64 a, .int .i64 b, .int .i64 c, .int .i64 d] 3) _ _ (World.block_lt_of_cell? _ _ c1)).trans c1
      have x2 := (World.cell?_alloc_past (w := w1) (.cells #[.int .i64 a, .int .i64 b, .int .i64 c, .int .i64 d] 3) _ _ (World.block_lt_of_cell? _ _ c2)).trans c2
      have x3 := (World.cell?_alloc_past (w := w1) (.cells #[.int .i64 a, .int .i64 b, .int .i64 c, .int .i64 d] 3) _ _ (World.block_lt_of_cell? _ _ c3)).trans c3
      have x4 := (World.cell?_alloc_past (w := w1) (.cells #[.int .i64 a, .int .i64 b, .int .i64 c, .int .i64 d] 3) _ _ (World.block_lt_of_cell? _ _ c4)).trans c4
      have y0 : (w1.alloc (.cells #[.int .i64 a, .int .i64 b, .int .i64 c, .int .i64 d] 3)).cell? ⟨w1.heap.size, 0, none⟩ = some (.int .i64 a) := by rw [World.cell?_alloc_at _ _ _ _ rfl]; rfl
      have y1 : (w1.alloc (.cells #[.int .i64 a, .int .i64 b, .int .i64 c, .int .i64 d] 3)).cell? ⟨w1.heap.size, 1, none⟩ = some (.int .i64 b) := by rw [World.cell?_alloc_at _ _ _ _ rfl]; rfl
      have y2 : (w1.alloc (.cells #[.int .i64 a, .int .i64 b, .int .i64 c, .int .i64 d] 3)).cell? ⟨w1.heap.size, 2, none⟩ = some (.int .i64 c) := by rw [World.cell?_alloc_at _ _ _ _ rfl]; rfl
      have y3 : (w1.alloc (.cells #[.int .i64 a, .int .i64 b, .int .i64 c, .int .i64 d] 3)).cell? ⟨w1.heap.size, 3, none⟩ = some (.int .i64 d) := by rw [World.cell?_alloc_at _ _ _ _ rfl]; rfl
      clear c0 c1 c2 c3 c4 HL HB hz
      generalize w1.alloc (.cells #[.int .i64 a, .int .i64 b, .int .i64 c, .int .i64 d] 3) = w2 at *
      generalize w1.heap.size = q at *
      go_wp2_with (first | (go_at_call 12; refine (valid_any _ _ _ _ _ _ (by first | exact bk | exact b1) HL2.out).mono ?_; rintro e w1 ⟨rfl, hb⟩; replace HL2 := Lib.hid (Laid.below HL2.out hb); replace HB2 := below_on HB2 hb; replace x0 := cell_on hb x0; replace x1 := cell_on hb x1; replace x2 := cell_on hb x2; replace x3 := cell_on hb x3; replace x4 := cell_on hb x4; replace y0 := cell_on hb y0; replace y1 := cell_on hb y1; replace y2 := cell_on hb y2; replace y3 := cell_on hb y3; clear hb) | (go_at_call 17; refine (mnemonic_any _ _ (by first | exact bk | exact b1) HL2.out).mono ?_; rintro e w1 ⟨rfl, hb⟩; replace HL2 := Lib.hid (Laid.below HL2.out hb); replace HB2 := below_on HB2 hb; replace x0 := cell_on hb x0; replace x1 := cell_on hb x1; replace x2 := cell_on hb x2; replace x3 := cell_on hb x3; replace x4 := cell_on hb x4; replace y0 := cell_on hb y0; replace y1 := cell_on hb y1; replace y2 := cell_on hb y2; replace y3 := cell_on hb y3; clear hb))
      go_ret
      exact ⟨by simp <;> omega, HB2⟩
    · have kk : (k == a1) = false := by simpa using he
      by_cases ha : a1 < 35
      · have ea := mn_full a1 b1.1 ha
        have eq := mn_apart' k a1 (by omega) b1.1 ha
        clear hk he ha
        go_enter Tryd.func10, Tryd.ntmps10
        go_wp2_with (first | (go_at_call 11; refine (awake_any _ HL.out).mono ?_; rintro e w1 ⟨rfl, hb⟩; replace HL := Lib.hid (Laid.below HL.out hb); replace HB := below_on HB hb; replace c0 := cell_on hb c0; replace c1 := cell_on hb c1; replace c2 := cell_on hb c2; replace c3 := cell_on hb c3; replace c4 := cell_on hb c4; have hz := World.block_lt_of_cell? _ _ c0; clear hb) | (go_at_call 19; refine (operands_any _ _ (by omega) HL.out).mono ?_; rintro e w1 ⟨rfl, hb⟩; replace HL := Lib.hid (Laid.below HL.out hb); replace HB := below_on HB hb; replace c0 := cell_on hb c0; replace c1 := cell_on hb c1; replace c2 := cell_on hb c2; replace c3 := cell_on hb c3; replace c4 := cell_on hb c4; have hz := World.block_lt_of_cell? _ _ c0; clear hb))
        have HL2 := Lib.hid (HL.out.alloc (.cells #[.int .i64 a, .int .i64 b, .int .i64 c, .int .i64 d] 3))
        have HB2 := HB.alloc (Nat.le_of_lt hz) (.cells #[.int .i64 a, .int .i64 b, .int .i64 c, .int .i64 d] 3)
        have x0 := (World.cell?_alloc_past (w := w1) (.cells #[.int .i64 a, .int .i64 b, .int .i64 c, .int .i64 d] 3) _ _ (World.block_lt_of_cell? _ _ c0)).trans c0
        have x1 := (World.cell?_alloc_past (w := w1) (.cells #[.int .i64 a, .int .i64 b, .int .i64 c, .int .i64 d] 3) _ _ (World.block_lt_of_cell? _ _ c1)).trans c1
        have x2 := (World.cell?_alloc_past (w := w1) (.cells #[.int .i64 a, .int .i64 b, .int .i64 c, .int .i64 d] 3) _ _ (World.block_lt_of_cell? _ _ c2)).trans c2
        have x3 := (World.cell?_alloc_past (w := w1) (.cells #[.int .i64 a, .int .i64 b, .int .i64 c, .int .i64 d] 3) _ _ (World.block_lt_of_cell? _ _ c3)).trans c3
        have x4 := (World.cell?_alloc_past (w := w1) (.cells #[.int .i64 a, .int .i64 b, .int .i64 c, .int .i64 d] 3) _ _ (World.block_lt_of_cell? _ _ c4)).trans c4
        have y0 : (w1.alloc (.cells #[.int .i64 a, .int .i64 b, .int .i64 c, .int .i64 d] 3)).cell? ⟨w1.heap.size, 0, none⟩ = some (.int .i64 a) := by rw [World.cell?_alloc_at _ _ _ _ rfl]; rfl
        have y1 : (w1.alloc (.cells #[.int .i64 a, .int .i64 b, .int .i64 c, .int .i64 d] 3)).cell? ⟨w1.heap.size, 1, none⟩ = some (.int .i64 b) := by rw [World.cell?_alloc_at _ _ _ _ rfl]; rfl
        have y2 : (w1.alloc (.cells #[.int .i64 a, .int .i64 b, .int .i64 c, .int .i64 d] 3)).cell? ⟨w1.heap.size, 2, none⟩ = some (.int .i64 c) := by rw [World.cell?_alloc_at _ _ _ _ rfl]; rfl
        have y3 : (w1.alloc (.cells #[.int .i64 a, .int .i64 b, .int .i64 c, .int .i64 d] 3)).cell? ⟨w1.heap.size, 3, none⟩ = some (.int .i64 d) := by rw [World.cell?_alloc_at _ _ _ _ rfl]; rfl
        clear c0 c1 c2 c3 c4 HL HB hz
        generalize w1.alloc (.cells #[.int .i64 a, .int .i64 b, .int .i64 c, .int .i64 d] 3) = w2 at *
        generalize w1.heap.size = q at *
        go_wp2_with (first | (go_at_call 12; refine (valid_any _ _ _ _ _ _ (by first | exact bk | exact b1) HL2.out).mono ?_; rintro e w1 ⟨rfl, hb⟩; replace HL2 := Lib.hid (Laid.below HL2.out hb); replace HB2 := below_on HB2 hb; replace x0 := cell_on hb x0; replace x1 := cell_on hb x1; replace x2 := cell_on hb x2; replace x3 := cell_on hb x3; replace x4 := cell_on hb x4; replace y0 := cell_on hb y0; replace y1 := cell_on hb y1; replace y2 := cell_on hb y2; replace y3 := cell_on hb y3; clear hb) | (go_at_call 17; refine (mnemonic_any _ _ (by first | exact bk | exact b1) HL2.out).mono ?_; rintro e w1 ⟨rfl, hb⟩; replace HL2 := Lib.hid (Laid.below HL2.out hb); replace HB2 := below_on HB2 hb; replace x0 := cell_on hb x0; replace x1 := cell_on hb x1; replace x2 := cell_on hb x2; replace x3 := cell_on hb x3; replace x4 := cell_on hb x4; replace y0 := cell_on hb y0; replace y1 := cell_on hb y1; replace y2 := cell_on hb y2; replace y3 := cell_on hb y3; clear hb))
        go_ret
        exact ⟨by simp <;> omega, HB2⟩
      · have ea := mn_nil a1 (by omega)
        clear hk he ha
        go_enter Tryd.func10, Tryd.ntmps10
        go_wp2_with (first | (go_at_call 11; refine (awake_any _ HL.out).mono ?_; rintro e w1 ⟨rfl, hb⟩; replace HL := Lib.hid (Laid.below HL.out hb); replace HB := below_on HB hb; replace c0 := cell_on hb c0; replace c1 := cell_on hb c1; replace c2 := cell_on hb c2; replace c3 := cell_on hb c3; replace c4 := cell_on hb c4; have hz := World.block_lt_of_cell? _ _ c0; clear hb) | (go_at_call 19; refine (operands_any _ _ (by omega) HL.out).mono ?_; rintro e w1 ⟨rfl, hb⟩; replace HL := Lib.hid (Laid.below HL.out hb); replace HB := below_on HB hb; replace c0 := cell_on hb c0; replace c1 := cell_on hb c1; replace c2 := cell_on hb c2; replace c3 := cell_on hb c3; replace c4 := cell_on hb c4; have hz := World.block_lt_of_cell? _ _ c0; clear hb))
        have HL2 := Lib.hid (HL.out.alloc (.cells #[.int .i64 a, .int .i64 b, .int .i64 c, .int .i64 d] 3))
        have HB2 := HB.alloc (Nat.le_of_lt hz) (.cells #[.int .i64 a, .int .i64 b, .int .i64 c, .int .i64 d] 3)
        have x0 := (World.cell?_alloc_past (w := w1) (.cells #[.int .i64 a, .int .i64 b, .int .i64 c, .int .i64 d] 3) _ _ (World.block_lt_of_cell? _ _ c0)).trans c0
        have x1 := (World.cell?_alloc_past (w := w1) (.cells #[.int .i64 a, .int .i64 b, .int .i64 c, .int .i64 d] 3) _ _ (World.block_lt_of_cell? _ _ c1)).trans c1
        have x2 := (World.cell?_alloc_past (w := w1) (.cells #[.int .i64 a, .int .i64 b, .int .i64 c, .int .i64 d] 3) _ _ (World.block_lt_of_cell? _ _ c2)).trans c2
        have x3 := (World.cell?_alloc_past (w := w1) (.cells #[.int .i64 a, .int .i64 b, .int .i64 c, .int .i64 d] 3) _ _ (World.block_lt_of_cell? _ _ c3)).trans c3
        have x4 := (World.cell?_alloc_past (w := w1) (.cells #[.int .i64 a, .int .i64 b, .int .i64 c, .int .i64 d] 3) _ _ (World.block_lt_of_cell? _ _ c4)).trans c4
        have y0 : (w1.alloc (.cells #[.int .i64 a, .int .i64 b, .int .i64 c, .int .i64 d] 3)).cell? ⟨w1.heap.size, 0, none⟩ = some (.int .i64 a) := by rw [World.cell?_alloc_at _ _ _ _ rfl]; rfl
        have y1 : (w1.alloc (.cells #[.int .i64 a, .int .i64 b, .int .i64 c, .int .i64 d] 3)).cell? ⟨w1.heap.size, 1, none⟩ = some (.int .i64 b) := by rw [World.cell?_alloc_at _ _ _ _ rfl]; rfl
        have y2 : (w1.alloc (.cells #[.int .i64 a, .int .i64 b, .int .i64 c, .int .i64 d] 3)).cell? ⟨w1.heap.size, 2, none⟩ = some (.int .i64 c) := by rw [World.cell?_alloc_at _ _ _ _ rfl]; rfl
        have y3 : (w1.alloc (.cells #[.int .i64 a, .int .i64 b, .int .i64 c, .int .i64 d] 3)).cell? ⟨w1.heap.size, 3, none⟩ = some (.int .i64 d) := by rw [World.cell?_alloc_at _ _ _ _ rfl]; rfl
        clear c0 c1 c2 c3 c4 HL HB hz
        generalize w1.alloc (.cells #[.int .i64 a, .int .i64 b, .int .i64 c, .int .i64 d] 3) = w2 at *
        generalize w1.heap.size = q at *
        go_wp2_with (first | (go_at_call 12; refine (valid_any _ _ _ _ _ _ (by first | exact bk | exact b1) HL2.out).mono ?_; rintro e w1 ⟨rfl, hb⟩; replace HL2 := Lib.hid (Laid.below HL2.out hb); replace HB2 := below_on HB2 hb; replace x0 := cell_on hb x0; replace x1 := cell_on hb x1; replace x2 := cell_on hb x2; replace x3 := cell_on hb x3; replace x4 := cell_on hb x4; replace y0 := cell_on hb y0; replace y1 := cell_on hb y1; replace y2 := cell_on hb y2; replace y3 := cell_on hb y3; clear hb) | (go_at_call 17; refine (mnemonic_any _ _ (by first | exact bk | exact b1) HL2.out).mono ?_; rintro e w1 ⟨rfl, hb⟩; replace HL2 := Lib.hid (Laid.below HL2.out hb); replace HB2 := below_on HB2 hb; replace x0 := cell_on hb x0; replace x1 := cell_on hb x1; replace x2 := cell_on hb x2; replace x3 := cell_on hb x3; replace x4 := cell_on hb x4; replace y0 := cell_on hb y0; replace y1 := cell_on hb y1; replace y2 := cell_on hb y2; replace y3 := cell_on hb y3; clear hb))
        go_ret
        exact ⟨by simp <;> omega, HB2⟩

set_option maxRecDepth 100000 in
theorem lifted (os : Os) (started : os.Started) (H : Type) (enc : TypeId × Value → H) :
    ReturnsInHanded {} Tryd.checked os 10 .any (fun w args => (Rows.isaUnusedSpec.pre enc Tryd.prog Tryd.f10 [] false w args ∧ laidMetH Tryd.prog laidL w) ∧ sizedMet enc Tryd.prog Tryd.f10 (OpenSpec.ofChange Rows.isaUnusedSpec) false w args)
      (Rows.isaUnusedSpec.post enc Tryd.prog Tryd.f10 false true false false) := by
  refine returnsInHanded_of_change_and (C := Tryd.checked) (X := fun w _ => laidMetH Tryd.prog laidL w) (fun _ _ _ hh h => h.of_heap hh) own started (by kernel_rfl) Tryd.func10
    (ChangeSpec.witness_shaped (enc := enc) (C := Tryd.checked) (os := os) (X := fun w _ => laidMetH Tryd.prog laidL w) false (World.doorLaid Tryd.prog 400 os) #[.agg #[.int .u8 0, .int .i64 0, .int .i64 0, .int .i64 0, .int .i64 0], .int .u8 0] 8 rfl (World.shaped_of_RefB (by kernel_rfl) (by kernel_rfl)) (by kernel_rfl) (by kernel_rfl) (by kernel_rfl) (door_met os _)) ?_
  intro W base args ds gs before hval0 hW _ _ hLm _
  have hL := of_laid hLm
  have hval : ∀ (j : Nat) t v, Tryd.f10.params[j]? = some t → args[j]? = some v → Value.okWide Tryd.prog W .any base t v := hval0
  have hW' := hW
  obtain ⟨p, q, hA0, hV, rfl, hfz, hnd⟩ := hW
  have hA : DataW.TrodAll enc Tryd.prog W 0 (fun _ => true) true Tryd.f10.params.toList args.toList ds p := hA0
  rw [Tryd.params10] at hA hval
  obtain ⟨v0, vs0, d0, ds0, p0, q0, hargs, rfl, rfl, h0, r0⟩ := trodAll_cons hA
  obtain ⟨v1, vs1, d1, ds1, p1, q1, rfl, rfl, rfl, h1, r1⟩ := trodAll_cons r0
  obtain ⟨rfl, rfl, rfl⟩ := trodAll_nil r1
  obtain rfl : args = #[v0, v1] := by cases args; simp_all
  obtain ⟨rfl, rfl⟩ := trodVars_none hV
  have k0 := h0
  have lt0 : ∀ x ∈ p0, x.block < W.heap.size := by obtain ⟨m, hm⟩ := k0; exact DataW.trod_lt m _ _ _ hm
  obtain ⟨k, a, b, c, d, rfl, wk⟩ := open_instr (hval 0 23 v0 rfl rfl) h0
  obtain ⟨a1, rfl, rfl, rfl, w1⟩ := open_int Tryd.underlying5 (hval 1 5 v1 rfl rfl) h1
  clear hA0 hval0
  refine (walk k a b c d a1 W wk w1 hL).mono fun e W' ⟨he, bel⟩ => ?_
  subst he
  exact ⟨_, rfl, _, _, _, [], _, [], hW', trodAll_mk1 (shut_bool Tryd.underlying4 _), (trodAll_cons_mk (Below.trod laidOut (by kernel_rfl) (of_decide_eq_true (by kernel_rfl)) k0 bel lt0) (trodAll_cons_mk (shut_int Tryd.underlying5 w1) trodAll_mk0)), rfl, bel.frame _, fun h => by cases h⟩

theorem over : Rows.isaUnusedRow.holds Tryd.pinned (OpenSpec.ofChange Rows.isaUnusedSpec) :=
  OpenClaim.holds_of_wide 10 Tryd.f10 rfl rfl rfl rfl rfl rfl rfl ⟨rfl, rfl, rfl, rfl, rfl⟩ rfl rfl rfl rfl rfl (by kernel_rfl) Tryd.func10 (by kernel_rfl)
    (of_decide_eq_true (by kernel_rfl)) (by unfold Func.isWrapper; first | (rw [if_pos (by decide +kernel)]; kernel_rfl) | (rw [if_neg (by decide +kernel)]; exact ⟨rfl, rfl⟩))
    (fun os started H enc _ => lifted os started H enc)

theorem proved : Rows.IsaUnusedCardSaid :=
  Claim7.holds_tied_plain_at .later [] [.data] true (true, "2389f407b72fa143690d231ca26cdb4e51a35b09ef9262f4ce06b412881d1a45") false
    over (fun _ h => by cases h) (by kernel_rfl) (fun _ h => by cases h) isaUnused_row_tie rfl ⟨rfl, rfl⟩ (by kernel_rfl) rfl
    (fun f fn hf hfn => by
      obtain rfl : f = 10 := Option.some.inj ((show Tryd.prog.funcNamed "backstep/backsteplaw21.IsaUnused" = some 10 by kernel_rfl).symm.trans hf) |>.symm
      obtain rfl : fn = Tryd.f10 := (Option.some.inj (Tryd.func10.symm.trans hfn)).symm
      exact ⟨by kernel_rfl, fun j t ht => by
        rw [Tryd.params10] at ht
        have hm : t ∈ [23, 5] := by simpa using Array.mem_of_getElem? ht
        have hall : ([23, 5].all fun u => !Tryd.prog.wantsStandIn u) = true := by kernel_rfl
        exact (show Tryd.prog.wantsStandIn t = false by simpa using List.all_eq_true.1 hall t hm)⟩)
    (by kernel_rfl)
#print axioms proved
end Go.Proofs.YtgpcgkccfefdfaaDoor.isaUnused
