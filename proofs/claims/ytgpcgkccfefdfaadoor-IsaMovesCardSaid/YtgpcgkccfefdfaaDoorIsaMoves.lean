/- The tied card of IsaMoves: it answers true for every instruction and any two targets, where the table of instructions holds what the program's text lays in it. -/
import Derived.Test.YtgpcgkccfefdfaaDoorRows
import Derived.Test.YtgpcgkccfefdfaaDoorCards
import Derived.Test.YtgpcgkccfefdfaaDoorTie
import Derived.LaidMore
import Derived.Stop.Joined
import Derived.SevenTiedAt
import Derived.WalkKit
import Derived.ProofKit
import Derived.OpenShut
import Derived.ShutString
import Derived.ChangeOld
import Derived.Below
import Derived.Test.YtgpcgkccfefdfaaDoorInv
import Derived.Lib.Hide
import Derived.Deep.RegionHeld3
import Derived.Deep.QuietTactic
import Derived.BigQuiet
import Derived.WalkSmall
import Derived.Outline
namespace Go.Proofs.YtgpcgkccfefdfaaDoor.isaMoves
open Go.ChangeShapes Go.WideShapes Go.ChangeAt Go.RowKit
open Go.ChangeMaps (open_string shut_string)
set_option linter.unusedSimpArgs false
set_option linter.unusedVariables false

theorem own : ownKnob Tryd.prog.godebug = none := by kernel_rfl
theorem laidOut : laidOutB Tryd.prog = true := by kernel_rfl

/-- what the listed variables hold when the call begins -/
abbrev laidL {H : Type} : List (String × DataW H) := [("backstep/isa.table", Rows.laid_backstep_isa_table)]
theorem gno0 : Tryd.prog.globalNamed "backstep/isa.table" = some 0 := by kernel_rfl
theorem gty0 : (Tryd.prog.globals[0]?).map (·.type) = some 51 := by kernel_rfl
theorem door_met (os : Os) (args : Array Value) : laidMetH Tryd.prog laidL ((World.doorLaid Tryd.prog 400 os).forCall (fun _ _ => 0) ⟨#[], args, []⟩).memory :=
  laidMetH_of_parts3 (fuel := 8) (laidMet_of_run' 8 (by kernel_rfl) (by kernel_rfl)) (by kernel_rfl) (by kernel_rfl)
theorem on1 {w w' w2 : World} {k a b c d : Int} (hg : Below w'.heap.size w' w2) (h : (fun w' => w'.cell? ⟨w.heap.size, 0, none⟩ = some (.int .u8 k) ∧ w'.cell? ⟨w.heap.size, 1, none⟩ = some (.int .i64 a) ∧ w'.cell? ⟨w.heap.size, 2, none⟩ = some (.int .i64 b) ∧ w'.cell? ⟨w.heap.size, 3, none⟩ = some (.int .i64 c) ∧ w'.cell? ⟨w.heap.size, 4, none⟩ = some (.int .i64 d) ∧ Below w.heap.size w w' ∧ Go.Proofs.YtgpcgkccfefdfaaDoor.Laid w') w') : (fun w' => w'.cell? ⟨w.heap.size, 0, none⟩ = some (.int .u8 k) ∧ w'.cell? ⟨w.heap.size, 1, none⟩ = some (.int .i64 a) ∧ w'.cell? ⟨w.heap.size, 2, none⟩ = some (.int .i64 b) ∧ w'.cell? ⟨w.heap.size, 3, none⟩ = some (.int .i64 c) ∧ w'.cell? ⟨w.heap.size, 4, none⟩ = some (.int .i64 d) ∧ Below w.heap.size w w' ∧ Go.Proofs.YtgpcgkccfefdfaaDoor.Laid w') w2 := by
  obtain ⟨h0, h1, h2, h3, h4, hB, hL⟩ := h
  exact ⟨cell_on hg h0, cell_on hg h1, cell_on hg h2, cell_on hg h3, cell_on hg h4, below_on hB hg, hL.below hg⟩
theorem on1_laid {w w' : World} {k a b c d : Int} (h : (fun w' => w'.cell? ⟨w.heap.size, 0, none⟩ = some (.int .u8 k) ∧ w'.cell? ⟨w.heap.size, 1, none⟩ = some (.int .i64 a) ∧ w'.cell? ⟨w.heap.size, 2, none⟩ = some (.int .i64 b) ∧ w'.cell? ⟨w.heap.size, 3, none⟩ = some (.int .i64 c) ∧ w'.cell? ⟨w.heap.size, 4, none⟩ = some (.int .i64 d) ∧ Below w.heap.size w w' ∧ Go.Proofs.YtgpcgkccfefdfaaDoor.Laid w') w') : Go.Proofs.YtgpcgkccfefdfaaDoor.Laid w' := by
  obtain ⟨h0, h1, h2, h3, h4, hB, hL⟩ := h
  exact hL
theorem on2_0 {w w' w2 : World} {k a b c d a1 : Int} {q : Nat} (hg : Below w'.heap.size w' w2) (h : (fun w' => w'.cell? ⟨w.heap.size, 0, none⟩ = some (.int .u8 k) ∧ w'.cell? ⟨w.heap.size, 1, none⟩ = some (.int .i64 a) ∧ w'.cell? ⟨w.heap.size, 2, none⟩ = some (.int .i64 b) ∧ w'.cell? ⟨w.heap.size, 3, none⟩ = some (.int .i64 c) ∧ w'.cell? ⟨w.heap.size, 4, none⟩ = some (.int .i64 d) ∧ w'.cell? ⟨q, 0, none⟩ = some (.int .u8 k) ∧ w'.cell? ⟨q, 1, none⟩ = some (.int .i64 a1) ∧ w'.cell? ⟨q, 2, none⟩ = some (.int .i64 b) ∧ w'.cell? ⟨q, 3, none⟩ = some (.int .i64 c) ∧ w'.cell? ⟨q, 4, none⟩ = some (.int .i64 d) ∧ Below w.heap.size w w' ∧ Go.Proofs.YtgpcgkccfefdfaaDoor.Laid w') w') : (fun w' => w'.cell? ⟨w.heap.size, 0, none⟩ = some (.int .u8 k) ∧ w'.cell? ⟨w.heap.size, 1, none⟩ = some (.int .i64 a) ∧ w'.cell? ⟨w.heap.size, 2, none⟩ = some (.int .i64 b) ∧ w'.cell? ⟨w.heap.size, 3, none⟩ = some (.int .i64 c) ∧ w'.cell? ⟨w.heap.size, 4, none⟩ = some (.int .i64 d) ∧ w'.cell? ⟨q, 0, none⟩ = some (.int .u8 k) ∧ w'.cell? ⟨q, 1, none⟩ = some (.int .i64 a1) ∧ w'.cell? ⟨q, 2, none⟩ = some (.int .i64 b) ∧ w'.cell? ⟨q, 3, none⟩ = some (.int .i64 c) ∧ w'.cell? ⟨q, 4, none⟩ = some (.int .i64 d) ∧ Below w.heap.size w w' ∧ Go.Proofs.YtgpcgkccfefdfaaDoor.Laid w') w2 := by
  obtain ⟨h0, h1, h2, h3, h4, h5, h6, h7, h8, h9, hB, hL⟩ := h
  exact ⟨cell_on hg h0, cell_on hg h1, cell_on hg h2, cell_on hg h3, cell_on hg h4, cell_on hg h5, cell_on hg h6, cell_on hg h7, cell_on hg h8, cell_on hg h9, below_on hB hg, hL.below hg⟩
theorem on2_0_laid {w w' : World} {k a b c d a1 : Int} {q : Nat} (h : (fun w' => w'.cell? ⟨w.heap.size, 0, none⟩ = some (.int .u8 k) ∧ w'.cell? ⟨w.heap.size, 1, none⟩ = some (.int .i64 a) ∧ w'.cell? ⟨w.heap.size, 2, none⟩ = some (.int .i64 b) ∧ w'.cell? ⟨w.heap.size, 3, none⟩ = some (.int .i64 c) ∧ w'.cell? ⟨w.heap.size, 4, none⟩ = some (.int .i64 d) ∧ w'.cell? ⟨q, 0, none⟩ = some (.int .u8 k) ∧ w'.cell? ⟨q, 1, none⟩ = some (.int .i64 a1) ∧ w'.cell? ⟨q, 2, none⟩ = some (.int .i64 b) ∧ w'.cell? ⟨q, 3, none⟩ = some (.int .i64 c) ∧ w'.cell? ⟨q, 4, none⟩ = some (.int .i64 d) ∧ Below w.heap.size w w' ∧ Go.Proofs.YtgpcgkccfefdfaaDoor.Laid w') w') : Go.Proofs.YtgpcgkccfefdfaaDoor.Laid w' := by
  obtain ⟨h0, h1, h2, h3, h4, h5, h6, h7, h8, h9, hB, hL⟩ := h
  exact hL
theorem on2_1 {w w' w2 : World} {k a b c d a1 : Int} {q : Nat} (hg : Below w'.heap.size w' w2) (h : (fun w' => w'.cell? ⟨w.heap.size, 0, none⟩ = some (.int .u8 k) ∧ w'.cell? ⟨w.heap.size, 1, none⟩ = some (.int .i64 a) ∧ w'.cell? ⟨w.heap.size, 2, none⟩ = some (.int .i64 b) ∧ w'.cell? ⟨w.heap.size, 3, none⟩ = some (.int .i64 c) ∧ w'.cell? ⟨w.heap.size, 4, none⟩ = some (.int .i64 d) ∧ w'.cell? ⟨q, 0, none⟩ = some (.int .u8 k) ∧ w'.cell? ⟨q, 1, none⟩ = some (.int .i64 a) ∧ w'.cell? ⟨q, 2, none⟩ = some (.int .i64 a1) ∧ w'.cell? ⟨q, 3, none⟩ = some (.int .i64 c) ∧ w'.cell? ⟨q, 4, none⟩ = some (.int .i64 d) ∧ Below w.heap.size w w' ∧ Go.Proofs.YtgpcgkccfefdfaaDoor.Laid w') w') : (fun w' => w'.cell? ⟨w.heap.size, 0, none⟩ = some (.int .u8 k) ∧ w'.cell? ⟨w.heap.size, 1, none⟩ = some (.int .i64 a) ∧ w'.cell? ⟨w.heap.size, 2, none⟩ = some (.int .i64 b) ∧ w'.cell? ⟨w.heap.size, 3, none⟩ = some (.int .i64 c) ∧ w'.cell? ⟨w.heap.size, 4, none⟩ = some (.int .i64 d) ∧ w'.cell? ⟨q, 0, none⟩ = some (.int .u8 k) ∧ w'.cell? ⟨q, 1, none⟩ = some (.int .i64 a) ∧ w'.cell? ⟨q, 2, none⟩ = some (.int .i64 a1) ∧ w'.cell? ⟨q, 3, none⟩ = some (.int .i64 c) ∧ w'.cell? ⟨q, 4, none⟩ = some (.int .i64 d) ∧ Below w.heap.size w w' ∧ Go.Proofs.YtgpcgkccfefdfaaDoor.Laid w') w2 := by
  obtain ⟨h0, h1, h2, h3, h4, h5, h6, h7, h8, h9, hB, hL⟩ := h
  exact ⟨cell_on hg h0, cell_on hg h1, cell_on hg h2, cell_on hg h3, cell_on hg h4, cell_on hg h5, cell_on hg h6, cell_on hg h7, cell_on hg h8, cell_on hg h9, below_on hB hg, hL.below hg⟩
theorem on2_1_laid {w w' : World} {k a b c d a1 : Int} {q : Nat} (h : (fun w' => w'.cell? ⟨w.heap.size, 0, none⟩ = some (.int .u8 k) ∧ w'.cell? ⟨w.heap.size, 1, none⟩ = some (.int .i64 a) ∧ w'.cell? ⟨w.heap.size, 2, none⟩ = some (.int .i64 b) ∧ w'.cell? ⟨w.heap.size, 3, none⟩ = some (.int .i64 c) ∧ w'.cell? ⟨w.heap.size, 4, none⟩ = some (.int .i64 d) ∧ w'.cell? ⟨q, 0, none⟩ = some (.int .u8 k) ∧ w'.cell? ⟨q, 1, none⟩ = some (.int .i64 a) ∧ w'.cell? ⟨q, 2, none⟩ = some (.int .i64 a1) ∧ w'.cell? ⟨q, 3, none⟩ = some (.int .i64 c) ∧ w'.cell? ⟨q, 4, none⟩ = some (.int .i64 d) ∧ Below w.heap.size w w' ∧ Go.Proofs.YtgpcgkccfefdfaaDoor.Laid w') w') : Go.Proofs.YtgpcgkccfefdfaaDoor.Laid w' := by
  obtain ⟨h0, h1, h2, h3, h4, h5, h6, h7, h8, h9, hB, hL⟩ := h
  exact hL

def Laid (W : World) : Prop := Go.Proofs.YtgpcgkccfefdfaaDoor.Laid W
theorem of_laid {W : World} (h : laidMetH Tryd.prog laidL W) : Laid W := by
  rw [MakeChecks.laidMetH_plain _ _ _ (by kernel_rfl)] at h
  obtain ⟨ps, ⟨g0, t0, cs0, f0, p0, q0, hg0, ht0, hv0, hd0, _, _⟩, _, _⟩ := h
  obtain rfl := Option.some.inj (gno0.symm.trans hg0)
  obtain rfl := Option.some.inj (gty0.symm.trans ht0)
  intro n hn
  have hd : DataW.trod (fun _ : TypeId × Value => ()) Tryd.prog W 0 (fun _ => true) false f0 51 cs0.toList = some (Rows.laid_backstep_isa_table, p0) := hd0
  have hr := pair_at Tryd.underlying51 Tryd.underlying41 (by kernel_rfl) (by kernel_rfl) Tryd.underlying9 ⟨rfl, rfl⟩ ⟨rfl, rfl⟩ hd n _ _ (table_at n hn)
  rw [Array.getElem?_toList, Array.getElem?_toList] at hr
  exact ⟨(World.var?_cell hg0 hv0 (n * 2)).trans hr.1, (World.var?_cell hg0 hv0 (n * 2 + 1)).trans hr.2⟩

set_option maxHeartbeats 4000000 in
theorem walk (k a b c d : Int) (a1 : Int) (a2 : Int) (w : World) (wk : (Lit.int .u8 k).wf = true) (w1 : (Lit.int .i64 a1).wf = true) (w2 : (Lit.int .i64 a2).wf = true) (hL : Laid w) :
    Calls Tryd.prog 9 #[.agg #[.int .u8 k, .int .i64 a, .int .i64 b, .int .i64 c, .int .i64 d], .int .i64 a1, .int .i64 a2] w fun e w' => e = .returned (.bool true) ∧ Below w.heap.size w w' := by
  have bk := bounds_u8 wk
  have HL := Lib.hid (hL.alloc (.cells #[.int .u8 k, .int .i64 a, .int .i64 b, .int .i64 c, .int .i64 d] 23))
  have HB : Below w.heap.size w (w.alloc (.cells #[.int .u8 k, .int .i64 a, .int .i64 b, .int .i64 c, .int .i64 d] 23)) := (Below.refl _ _).alloc (Nat.le_refl _) _
  clear hL
  obtain ⟨p, hp⟩ : ∃ p, p = w.heap.size := ⟨_, rfl⟩
  have c0 : (w.alloc (.cells #[.int .u8 k, .int .i64 a, .int .i64 b, .int .i64 c, .int .i64 d] 23)).cell? ⟨p, 0, none⟩ = some (.int .u8 k) := by rw [hp, World.cell?_alloc_at _ _ _ _ rfl]; rfl
  have c1 : (w.alloc (.cells #[.int .u8 k, .int .i64 a, .int .i64 b, .int .i64 c, .int .i64 d] 23)).cell? ⟨p, 1, none⟩ = some (.int .i64 a) := by rw [hp, World.cell?_alloc_at _ _ _ _ rfl]; rfl
  have c2 : (w.alloc (.cells #[.int .u8 k, .int .i64 a, .int .i64 b, .int .i64 c, .int .i64 d] 23)).cell? ⟨p, 2, none⟩ = some (.int .i64 b) := by rw [hp, World.cell?_alloc_at _ _ _ _ rfl]; rfl
  have c3 : (w.alloc (.cells #[.int .u8 k, .int .i64 a, .int .i64 b, .int .i64 c, .int .i64 d] 23)).cell? ⟨p, 3, none⟩ = some (.int .i64 c) := by rw [hp, World.cell?_alloc_at _ _ _ _ rfl]; rfl
  have c4 : (w.alloc (.cells #[.int .u8 k, .int .i64 a, .int .i64 b, .int .i64 c, .int .i64 d] 23)).cell? ⟨p, 4, none⟩ = some (.int .i64 d) := by rw [hp, World.cell?_alloc_at _ _ _ _ rfl]; rfl
  rw [hp] at c0 c1 c2 c3 c4
  clear hp
  rcases tg_cases k with ht | ht | ht
  · have e1 : ∀ a b : Int, tv k a b = a := fun a b => by unfold tv; simp [ht]
    have e2 : tb k = true := by unfold tb; simp [ht]
    have e3 : ∀ a x : Int, rta k a x = x := fun a x => by unfold rta; simp [ht]
    have e4 : ∀ b x : Int, rtb k b x = b := fun b x => by unfold rtb; simp [ht]
    have bi := bk
    clear ht
    go_enter Tryd.func9, Tryd.ntmps9
    go_wp2_with (first | (go_at_call 11; refine (awake_any _ HL.out).mono ?_; rintro e w1 ⟨rfl, hb⟩; replace HL := Lib.hid (Laid.below HL.out hb); replace HB := below_on HB hb; replace c0 := cell_on hb c0; replace c1 := cell_on hb c1; replace c2 := cell_on hb c2; replace c3 := cell_on hb c3; replace c4 := cell_on hb c4; have hz := World.block_lt_of_cell? _ _ c0; clear hb) | (go_at_call 22; refine (target_any _ _ _ _ _ _ (by omega) HL.out).mono ?_; rintro e w1 ⟨rfl, hb⟩; replace HL := Lib.hid (Laid.below HL.out hb); replace HB := below_on HB hb; replace c0 := cell_on hb c0; replace c1 := cell_on hb c1; replace c2 := cell_on hb c2; replace c3 := cell_on hb c3; replace c4 := cell_on hb c4; have hz := World.block_lt_of_cell? _ _ c0; clear hb) | (go_at_call 23; refine (retarget_any _ _ _ _ _ _ _ (by omega) HL.out).mono ?_; rintro e w1 ⟨rfl, hb⟩; replace HL := Lib.hid (Laid.below HL.out hb); replace HB := below_on HB hb; replace c0 := cell_on hb c0; replace c1 := cell_on hb c1; replace c2 := cell_on hb c2; replace c3 := cell_on hb c3; replace c4 := cell_on hb c4; have hz := World.block_lt_of_cell? _ _ c0; clear hb))
    have HL2 := Lib.hid (HL.out.alloc (.cells #[.int .u8 k, .int .i64 a1, .int .i64 b, .int .i64 c, .int .i64 d] 23))
    have HB2 := HB.alloc (Nat.le_of_lt hz) (.cells #[.int .u8 k, .int .i64 a1, .int .i64 b, .int .i64 c, .int .i64 d] 23)
    have x0 := (World.cell?_alloc_past (w := w1) (.cells #[.int .u8 k, .int .i64 a1, .int .i64 b, .int .i64 c, .int .i64 d] 23) _ _ (World.block_lt_of_cell? _ _ c0)).trans c0
    have x1 := (World.cell?_alloc_past (w := w1) (.cells #[.int .u8 k, .int .i64 a1, .int .i64 b, .int .i64 c, .int .i64 d] 23) _ _ (World.block_lt_of_cell? _ _ c1)).trans c1
    have x2 := (World.cell?_alloc_past (w := w1) (.cells #[.int .u8 k, .int .i64 a1, .int .i64 b, .int .i64 c, .int .i64 d] 23) _ _ (World.block_lt_of_cell? _ _ c2)).trans c2
    have x3 := (World.cell?_alloc_past (w := w1) (.cells #[.int .u8 k, .int .i64 a1, .int .i64 b, .int .i64 c, .int .i64 d] 23) _ _ (World.block_lt_of_cell? _ _ c3)).trans c3
    have x4 := (World.cell?_alloc_past (w := w1) (.cells #[.int .u8 k, .int .i64 a1, .int .i64 b, .int .i64 c, .int .i64 d] 23) _ _ (World.block_lt_of_cell? _ _ c4)).trans c4
    have y0 : (w1.alloc (.cells #[.int .u8 k, .int .i64 a1, .int .i64 b, .int .i64 c, .int .i64 d] 23)).cell? ⟨w1.heap.size, 0, none⟩ = some (.int .u8 (k)) := by rw [World.cell?_alloc_at _ _ _ _ rfl]; rfl
    have y1 : (w1.alloc (.cells #[.int .u8 k, .int .i64 a1, .int .i64 b, .int .i64 c, .int .i64 d] 23)).cell? ⟨w1.heap.size, 1, none⟩ = some (.int .i64 (a1)) := by rw [World.cell?_alloc_at _ _ _ _ rfl]; rfl
    have y2 : (w1.alloc (.cells #[.int .u8 k, .int .i64 a1, .int .i64 b, .int .i64 c, .int .i64 d] 23)).cell? ⟨w1.heap.size, 2, none⟩ = some (.int .i64 (b)) := by rw [World.cell?_alloc_at _ _ _ _ rfl]; rfl
    have y3 : (w1.alloc (.cells #[.int .u8 k, .int .i64 a1, .int .i64 b, .int .i64 c, .int .i64 d] 23)).cell? ⟨w1.heap.size, 3, none⟩ = some (.int .i64 (c)) := by rw [World.cell?_alloc_at _ _ _ _ rfl]; rfl
    have y4 : (w1.alloc (.cells #[.int .u8 k, .int .i64 a1, .int .i64 b, .int .i64 c, .int .i64 d] 23)).cell? ⟨w1.heap.size, 4, none⟩ = some (.int .i64 (d)) := by rw [World.cell?_alloc_at _ _ _ _ rfl]; rfl
    clear c0 c1 c2 c3 c4 HL HB hz
    generalize w1.alloc (.cells #[.int .u8 k, .int .i64 a1, .int .i64 b, .int .i64 c, .int .i64 d] 23) = w2 at *
    generalize w1.heap.size = q at *
    go_wp2_with (first | (go_at_call 22; refine (target_any _ _ _ _ _ _ (by first | exact bk | exact bi) HL2.out).mono ?_; rintro e w1 ⟨rfl, hb⟩; replace HL2 := Lib.hid (Laid.below HL2.out hb); replace HB2 := below_on HB2 hb; replace x0 := cell_on hb x0; replace x1 := cell_on hb x1; replace x2 := cell_on hb x2; replace x3 := cell_on hb x3; replace x4 := cell_on hb x4; replace y0 := cell_on hb y0; replace y1 := cell_on hb y1; replace y2 := cell_on hb y2; replace y3 := cell_on hb y3; replace y4 := cell_on hb y4; clear hb))
    have HW := HL2.out
    go_region_held3 (fun w' => w'.cell? ⟨w.heap.size, 0, none⟩ = some (.int .u8 k) ∧ w'.cell? ⟨w.heap.size, 1, none⟩ = some (.int .i64 a) ∧ w'.cell? ⟨w.heap.size, 2, none⟩ = some (.int .i64 b) ∧ w'.cell? ⟨w.heap.size, 3, none⟩ = some (.int .i64 c) ∧ w'.cell? ⟨w.heap.size, 4, none⟩ = some (.int .i64 d) ∧ w'.cell? ⟨q, 0, none⟩ = some (.int .u8 k) ∧ w'.cell? ⟨q, 1, none⟩ = some (.int .i64 a1) ∧ w'.cell? ⟨q, 2, none⟩ = some (.int .i64 b) ∧ w'.cell? ⟨q, 3, none⟩ = some (.int .i64 c) ∧ w'.cell? ⟨q, 4, none⟩ = some (.int .i64 d) ∧ Below w.heap.size w w' ∧ Go.Proofs.YtgpcgkccfefdfaaDoor.Laid w')
      (first | exact ⟨x0, x1, x2, x3, x4, y0, y1, y2, y3, y4, HB2.drew, HW⟩ | exact HX | assumption)
      (first | (go_at_call 23; refine (retarget_any _ _ _ _ _ _ _ bk ?_).mono ?_; exact on2_0_laid (by assumption); rintro e w2 ⟨rfl, hg⟩; have HX := on2_0 hg (by assumption)))
    all_goals go_wp2
    all_goals go_ret
    all_goals exact ⟨by simp, HX.2.2.2.2.2.2.2.2.2.2.1⟩
  · have e1 : ∀ a b : Int, tv k a b = b := fun a b => by unfold tv; simp [ht]
    have e2 : tb k = true := by unfold tb; simp [ht]
    have e3 : ∀ a x : Int, rta k a x = a := fun a x => by unfold rta; simp [ht]
    have e4 : ∀ b x : Int, rtb k b x = x := fun b x => by unfold rtb; simp [ht]
    have bi := bk
    clear ht
    go_enter Tryd.func9, Tryd.ntmps9
    go_wp2_with (first | (go_at_call 11; refine (awake_any _ HL.out).mono ?_; rintro e w1 ⟨rfl, hb⟩; replace HL := Lib.hid (Laid.below HL.out hb); replace HB := below_on HB hb; replace c0 := cell_on hb c0; replace c1 := cell_on hb c1; replace c2 := cell_on hb c2; replace c3 := cell_on hb c3; replace c4 := cell_on hb c4; have hz := World.block_lt_of_cell? _ _ c0; clear hb) | (go_at_call 22; refine (target_any _ _ _ _ _ _ (by omega) HL.out).mono ?_; rintro e w1 ⟨rfl, hb⟩; replace HL := Lib.hid (Laid.below HL.out hb); replace HB := below_on HB hb; replace c0 := cell_on hb c0; replace c1 := cell_on hb c1; replace c2 := cell_on hb c2; replace c3 := cell_on hb c3; replace c4 := cell_on hb c4; have hz := World.block_lt_of_cell? _ _ c0; clear hb) | (go_at_call 23; refine (retarget_any _ _ _ _ _ _ _ (by omega) HL.out).mono ?_; rintro e w1 ⟨rfl, hb⟩; replace HL := Lib.hid (Laid.below HL.out hb); replace HB := below_on HB hb; replace c0 := cell_on hb c0; replace c1 := cell_on hb c1; replace c2 := cell_on hb c2; replace c3 := cell_on hb c3; replace c4 := cell_on hb c4; have hz := World.block_lt_of_cell? _ _ c0; clear hb))
    have HL2 := Lib.hid (HL.out.alloc (.cells #[.int .u8 k, .int .i64 a, .int .i64 a1, .int .i64 c, .int .i64 d] 23))
    have HB2 := HB.alloc (Nat.le_of_lt hz) (.cells #[.int .u8 k, .int .i64 a, .int .i64 a1, .int .i64 c, .int .i64 d] 23)
    have x0 := (World.cell?_alloc_past (w := w1) (.cells #[.int .u8 k, .int .i64 a, .int .i64 a1, .int .i64 c, .int .i64 d] 23) _ _ (World.block_lt_of_cell? _ _ c0)).trans c0
    have x1 := (World.cell?_alloc_past (w := w1) (.cells #[.int .u8 k, .int .i64 a, .int .i64 a1, .int .i64 c, .int .i64 d] 23) _ _ (World.block_lt_of_cell? _ _ c1)).trans c1
    have x2 := (World.cell?_alloc_past (w := w1) (.cells #[.int .u8 k, .int .i64 a, .int .i64 a1, .int .i64 c, .int .i64 d] 23) _ _ (World.block_lt_of_cell? _ _ c2)).trans c2
    have x3 := (World.cell?_alloc_past (w := w1) (.cells #[.int .u8 k, .int .i64 a, .int .i64 a1, .int .i64 c, .int .i64 d] 23) _ _ (World.block_lt_of_cell? _ _ c3)).trans c3
    have x4 := (World.cell?_alloc_past (w := w1) (.cells #[.int .u8 k, .int .i64 a, .int .i64 a1, .int .i64 c, .int .i64 d] 23) _ _ (World.block_lt_of_cell? _ _ c4)).trans c4
    have y0 : (w1.alloc (.cells #[.int .u8 k, .int .i64 a, .int .i64 a1, .int .i64 c, .int .i64 d] 23)).cell? ⟨w1.heap.size, 0, none⟩ = some (.int .u8 (k)) := by rw [World.cell?_alloc_at _ _ _ _ rfl]; rfl
    have y1 : (w1.alloc (.cells #[.int .u8 k, .int .i64 a, .int .i64 a1, .int .i64 c, .int .i64 d] 23)).cell? ⟨w1.heap.size, 1, none⟩ = some (.int .i64 (a)) := by rw [World.cell?_alloc_at _ _ _ _ rfl]; rfl
    have y2 : (w1.alloc (.cells #[.int .u8 k, .int .i64 a, .int .i64 a1, .int .i64 c, .int .i64 d] 23)).cell? ⟨w1.heap.size, 2, none⟩ = some (.int .i64 (a1)) := by rw [World.cell?_alloc_at _ _ _ _ rfl]; rfl
    have y3 : (w1.alloc (.cells #[.int .u8 k, .int .i64 a, .int .i64 a1, .int .i64 c, .int .i64 d] 23)).cell? ⟨w1.heap.size, 3, none⟩ = some (.int .i64 (c)) := by rw [World.cell?_alloc_at _ _ _ _ rfl]; rfl
    have y4 : (w1.alloc (.cells #[.int .u8 k, .int .i64 a, .int .i64 a1, .int .i64 c, .int .i64 d] 23)).cell? ⟨w1.heap.size, 4, none⟩ = some (.int .i64 (d)) := by rw [World.cell?_alloc_at _ _ _ _ rfl]; rfl
    clear c0 c1 c2 c3 c4 HL HB hz
    generalize w1.alloc (.cells #[.int .u8 k, .int .i64 a, .int .i64 a1, .int .i64 c, .int .i64 d] 23) = w2 at *
    generalize w1.heap.size = q at *
    go_wp2_with (first | (go_at_call 22; refine (target_any _ _ _ _ _ _ (by first | exact bk | exact bi) HL2.out).mono ?_; rintro e w1 ⟨rfl, hb⟩; replace HL2 := Lib.hid (Laid.below HL2.out hb); replace HB2 := below_on HB2 hb; replace x0 := cell_on hb x0; replace x1 := cell_on hb x1; replace x2 := cell_on hb x2; replace x3 := cell_on hb x3; replace x4 := cell_on hb x4; replace y0 := cell_on hb y0; replace y1 := cell_on hb y1; replace y2 := cell_on hb y2; replace y3 := cell_on hb y3; replace y4 := cell_on hb y4; clear hb))
    have HW := HL2.out
    go_region_held3 (fun w' => w'.cell? ⟨w.heap.size, 0, none⟩ = some (.int .u8 k) ∧ w'.cell? ⟨w.heap.size, 1, none⟩ = some (.int .i64 a) ∧ w'.cell? ⟨w.heap.size, 2, none⟩ = some (.int .i64 b) ∧ w'.cell? ⟨w.heap.size, 3, none⟩ = some (.int .i64 c) ∧ w'.cell? ⟨w.heap.size, 4, none⟩ = some (.int .i64 d) ∧ w'.cell? ⟨q, 0, none⟩ = some (.int .u8 k) ∧ w'.cell? ⟨q, 1, none⟩ = some (.int .i64 a) ∧ w'.cell? ⟨q, 2, none⟩ = some (.int .i64 a1) ∧ w'.cell? ⟨q, 3, none⟩ = some (.int .i64 c) ∧ w'.cell? ⟨q, 4, none⟩ = some (.int .i64 d) ∧ Below w.heap.size w w' ∧ Go.Proofs.YtgpcgkccfefdfaaDoor.Laid w')
      (first | exact ⟨x0, x1, x2, x3, x4, y0, y1, y2, y3, y4, HB2.drew, HW⟩ | exact HX | assumption)
      (first | (go_at_call 23; refine (retarget_any _ _ _ _ _ _ _ bk ?_).mono ?_; exact on2_1_laid (by assumption); rintro e w2 ⟨rfl, hg⟩; have HX := on2_1 hg (by assumption)))
    all_goals go_wp2
    all_goals go_ret
    all_goals exact ⟨by simp, HX.2.2.2.2.2.2.2.2.2.2.1⟩
  · have e2 : tb k = false := by unfold tb; simp [ht]
    have e3 : ∀ a x : Int, rta k a x = a := fun a x => by unfold rta; simp [ht]
    have e4 : ∀ b x : Int, rtb k b x = b := fun b x => by unfold rtb; simp [ht]
    clear ht
    go_enter Tryd.func9, Tryd.ntmps9
    go_wp2_with (first | (go_at_call 11; refine (awake_any _ HL.out).mono ?_; rintro e w1 ⟨rfl, hb⟩; replace HL := Lib.hid (Laid.below HL.out hb); replace HB := below_on HB hb; replace c0 := cell_on hb c0; replace c1 := cell_on hb c1; replace c2 := cell_on hb c2; replace c3 := cell_on hb c3; replace c4 := cell_on hb c4; have hz := World.block_lt_of_cell? _ _ c0; clear hb) | (go_at_call 22; refine (target_any _ _ _ _ _ _ (by omega) HL.out).mono ?_; rintro e w1 ⟨rfl, hb⟩; replace HL := Lib.hid (Laid.below HL.out hb); replace HB := below_on HB hb; replace c0 := cell_on hb c0; replace c1 := cell_on hb c1; replace c2 := cell_on hb c2; replace c3 := cell_on hb c3; replace c4 := cell_on hb c4; have hz := World.block_lt_of_cell? _ _ c0; clear hb))
    have HW := HL.out
    go_region_held3 (fun w' => w'.cell? ⟨w.heap.size, 0, none⟩ = some (.int .u8 k) ∧ w'.cell? ⟨w.heap.size, 1, none⟩ = some (.int .i64 a) ∧ w'.cell? ⟨w.heap.size, 2, none⟩ = some (.int .i64 b) ∧ w'.cell? ⟨w.heap.size, 3, none⟩ = some (.int .i64 c) ∧ w'.cell? ⟨w.heap.size, 4, none⟩ = some (.int .i64 d) ∧ Below w.heap.size w w' ∧ Go.Proofs.YtgpcgkccfefdfaaDoor.Laid w')
      (first | exact ⟨c0, c1, c2, c3, c4, HB.drew, HW⟩ | exact HX | assumption)
      (first | (go_at_call 23; refine (retarget_any _ _ _ _ _ _ _ bk ?_).mono ?_; exact on1_laid (by assumption); rintro e w2 ⟨rfl, hg⟩; have HX := on1 hg (by assumption)))
    all_goals go_wp2
    all_goals go_ret
    all_goals exact ⟨by simp, HX.2.2.2.2.2.1⟩

set_option maxRecDepth 100000 in
theorem lifted (os : Os) (started : os.Started) (H : Type) (enc : TypeId × Value → H) :
    ReturnsInHanded {} Tryd.checked os 9 .any (fun w args => (Rows.isaMovesSpec.pre enc Tryd.prog Tryd.f9 [] false w args ∧ laidMetH Tryd.prog laidL w) ∧ sizedMet enc Tryd.prog Tryd.f9 (OpenSpec.ofChange Rows.isaMovesSpec) false w args)
      (Rows.isaMovesSpec.post enc Tryd.prog Tryd.f9 false true false false) := by
  refine returnsInHanded_of_change_and (C := Tryd.checked) (X := fun w _ => laidMetH Tryd.prog laidL w) (fun _ _ _ hh h => h.of_heap hh) own started (by kernel_rfl) Tryd.func9
    (ChangeSpec.witness_shaped (enc := enc) (C := Tryd.checked) (os := os) (X := fun w _ => laidMetH Tryd.prog laidL w) false (World.doorLaid Tryd.prog 400 os) #[.agg #[.int .u8 0, .int .i64 0, .int .i64 0, .int .i64 0, .int .i64 0], .int .i64 0, .int .i64 0] 8 rfl (World.shaped_of_RefB (by kernel_rfl) (by kernel_rfl)) (by kernel_rfl) (by kernel_rfl) (by kernel_rfl) (door_met os _)) ?_
  intro W base args ds gs before hval0 hW _ _ hLm _
  have hL := of_laid hLm
  have hval : ∀ (j : Nat) t v, Tryd.f9.params[j]? = some t → args[j]? = some v → Value.okWide Tryd.prog W .any base t v := hval0
  have hW' := hW
  obtain ⟨p, q, hA0, hV, rfl, hfz, hnd⟩ := hW
  have hA : DataW.TrodAll enc Tryd.prog W 0 (fun _ => true) true Tryd.f9.params.toList args.toList ds p := hA0
  rw [Tryd.params9] at hA hval
  obtain ⟨v0, vs0, d0, ds0, p0, q0, hargs, rfl, rfl, h0, r0⟩ := trodAll_cons hA
  obtain ⟨v1, vs1, d1, ds1, p1, q1, rfl, rfl, rfl, h1, r1⟩ := trodAll_cons r0
  obtain ⟨v2, vs2, d2, ds2, p2, q2, rfl, rfl, rfl, h2, r2⟩ := trodAll_cons r1
  obtain ⟨rfl, rfl, rfl⟩ := trodAll_nil r2
  obtain rfl : args = #[v0, v1, v2] := by cases args; simp_all
  obtain ⟨rfl, rfl⟩ := trodVars_none hV
  have k0 := h0
  have lt0 : ∀ x ∈ p0, x.block < W.heap.size := by obtain ⟨m, hm⟩ := k0; exact DataW.trod_lt m _ _ _ hm
  obtain ⟨k, a, b, c, d, rfl, wk⟩ := open_instr (hval 0 23 v0 rfl rfl) h0
  obtain ⟨a1, rfl, rfl, rfl, w1⟩ := open_int Tryd.underlying3 (hval 1 3 v1 rfl rfl) h1
  obtain ⟨a2, rfl, rfl, rfl, w2⟩ := open_int Tryd.underlying3 (hval 2 3 v2 rfl rfl) h2
  clear hA0 hval0
  refine (walk k a b c d a1 a2 W wk w1 w2 hL).mono fun e W' ⟨he, bel⟩ => ?_
  subst he
  exact ⟨_, rfl, _, _, _, [], _, [], hW', trodAll_mk1 (shut_bool Tryd.underlying4 _), (trodAll_cons_mk (Below.trod laidOut (by kernel_rfl) (of_decide_eq_true (by kernel_rfl)) k0 bel lt0) (trodAll_cons_mk (shut_int Tryd.underlying3 w1) (trodAll_cons_mk (shut_int Tryd.underlying3 w2) trodAll_mk0))), rfl, bel.frame _, fun h => by cases h⟩

theorem over : Rows.isaMovesRow.holds Tryd.pinned (OpenSpec.ofChange Rows.isaMovesSpec) :=
  OpenClaim.holds_of_wide 9 Tryd.f9 rfl rfl rfl rfl rfl rfl rfl ⟨rfl, rfl, rfl, rfl, rfl⟩ rfl rfl rfl rfl rfl (by kernel_rfl) Tryd.func9 (by kernel_rfl)
    (of_decide_eq_true (by kernel_rfl)) (by unfold Func.isWrapper; first | (rw [if_pos (by decide +kernel)]; kernel_rfl) | (rw [if_neg (by decide +kernel)]; exact ⟨rfl, rfl⟩))
    (fun os started H enc _ => lifted os started H enc)

theorem proved : Rows.IsaMovesCardSaid :=
  Claim7.holds_tied_plain_at .later [] [.data] true (true, "2389f407b72fa143690d231ca26cdb4e51a35b09ef9262f4ce06b412881d1a45") false
    over (fun _ h => by cases h) (by kernel_rfl) (fun _ h => by cases h) isaMoves_row_tie rfl ⟨rfl, rfl⟩ (by kernel_rfl) rfl
    (fun f fn hf hfn => by
      obtain rfl : f = 9 := Option.some.inj ((show Tryd.prog.funcNamed "backstep/backsteplaw21.IsaMoves" = some 9 by kernel_rfl).symm.trans hf) |>.symm
      obtain rfl : fn = Tryd.f9 := (Option.some.inj (Tryd.func9.symm.trans hfn)).symm
      exact ⟨by kernel_rfl, fun j t ht => by
        rw [Tryd.params9] at ht
        have hm : t ∈ [23, 3, 3] := by simpa using Array.mem_of_getElem? ht
        have hall : ([23, 3, 3].all fun u => !Tryd.prog.wantsStandIn u) = true := by kernel_rfl
        exact (show Tryd.prog.wantsStandIn t = false by simpa using List.all_eq_true.1 hall t hm)⟩)
    (by kernel_rfl)
#print axioms proved
end Go.Proofs.YtgpcgkccfefdfaaDoor.isaMoves
