/- The tied card of IsaTargets: it answers true for every instruction and every target, where the table of instructions holds what the program's text lays in it. -/
import Derived.Test.YtgpcgkccfefdfaaDoorRows
import Derived.Test.YtgpcgkccfefdfaaDoorCards
import Derived.Test.YtgpcgkccfefdfaaDoorTie
import Derived.LaidMore
import Derived.Stop.Joined
import Derived.SevenTiedAt
import Derived.WalkKit
import Derived.ProofKit
import Derived.OpenShut
import Derived.ShutString
import Derived.ChangeOld
import Derived.Below
import Derived.Test.YtgpcgkccfefdfaaDoorInv
import Derived.Lib.Hide
import Derived.Deep.RegionHeld3
import Derived.Deep.QuietTactic
import Derived.BigQuiet
import Derived.WalkSmall
import Derived.Outline
namespace Go.Proofs.YtgpcgkccfefdfaaDoor.isaTargets
open Go.ChangeShapes Go.WideShapes Go.ChangeAt Go.RowKit
open Go.ChangeMaps (open_string shut_string)
set_option linter.unusedSimpArgs false
set_option linter.unusedVariables false

theorem own : ownKnob Tryd.prog.godebug = none := by kernel_rfl
theorem laidOut : laidOutB Tryd.prog = true := by kernel_rfl

/-- what the listed variables hold when the call begins -/
abbrev laidL {H : Type} : List (String × DataW H) := [("backstep/isa.table", Rows.laid_backstep_isa_table)]
theorem gno0 : Tryd.prog.globalNamed "backstep/isa.table" = some 0 := by kernel_rfl
theorem gty0 : (Tryd.prog.globals[0]?).map (·.type) = some 51 := by kernel_rfl
theorem door_met (os : Os) (args : Array Value) : laidMetH Tryd.prog laidL ((World.doorLaid Tryd.prog 400 os).forCall (fun _ _ => 0) ⟨#[], args, []⟩).memory :=
  laidMetH_of_parts3 (fuel := 8) (laidMet_of_run' 8 (by kernel_rfl) (by kernel_rfl)) (by kernel_rfl) (by kernel_rfl)

def Laid (W : World) : Prop := Go.Proofs.YtgpcgkccfefdfaaDoor.Laid W
theorem of_laid {W : World} (h : laidMetH Tryd.prog laidL W) : Laid W := by
  rw [MakeChecks.laidMetH_plain _ _ _ (by kernel_rfl)] at h
  obtain ⟨ps, ⟨g0, t0, cs0, f0, p0, q0, hg0, ht0, hv0, hd0, _, _⟩, _, _⟩ := h
  obtain rfl := Option.some.inj (gno0.symm.trans hg0)
  obtain rfl := Option.some.inj (gty0.symm.trans ht0)
  intro n hn
  have hd : DataW.trod (fun _ : TypeId × Value => ()) Tryd.prog W 0 (fun _ => true) false f0 51 cs0.toList = some (Rows.laid_backstep_isa_table, p0) := hd0
  have hr := pair_at Tryd.underlying51 Tryd.underlying41 (by kernel_rfl) (by kernel_rfl) Tryd.underlying9 ⟨rfl, rfl⟩ ⟨rfl, rfl⟩ hd n _ _ (table_at n hn)
  rw [Array.getElem?_toList, Array.getElem?_toList] at hr
  exact ⟨(World.var?_cell hg0 hv0 (n * 2)).trans hr.1, (World.var?_cell hg0 hv0 (n * 2 + 1)).trans hr.2⟩

set_option maxHeartbeats 4000000 in
theorem walk (k a b c d : Int) (a1 : Int) (w : World) (wk : (Lit.int .u8 k).wf = true) (w1 : (Lit.int .i64 a1).wf = true) (hL : Laid w) :
    Calls Tryd.prog 6 #[.agg #[.int .u8 k, .int .i64 a, .int .i64 b, .int .i64 c, .int .i64 d], .int .i64 a1] w fun e w' => e = .returned (.bool true) ∧ Below w.heap.size w w' := by
  have bk := bounds_u8 wk
  have HL := Lib.hid (hL.alloc (.cells #[.int .u8 k, .int .i64 a, .int .i64 b, .int .i64 c, .int .i64 d] 23))
  have HB : Below w.heap.size w (w.alloc (.cells #[.int .u8 k, .int .i64 a, .int .i64 b, .int .i64 c, .int .i64 d] 23)) := (Below.refl _ _).alloc (Nat.le_refl _) _
  clear hL
  obtain ⟨p, hp⟩ : ∃ p, p = w.heap.size := ⟨_, rfl⟩
  have c0 : (w.alloc (.cells #[.int .u8 k, .int .i64 a, .int .i64 b, .int .i64 c, .int .i64 d] 23)).cell? ⟨p, 0, none⟩ = some (.int .u8 k) := by rw [hp, World.cell?_alloc_at _ _ _ _ rfl]; rfl
  have c1 : (w.alloc (.cells #[.int .u8 k, .int .i64 a, .int .i64 b, .int .i64 c, .int .i64 d] 23)).cell? ⟨p, 1, none⟩ = some (.int .i64 a) := by rw [hp, World.cell?_alloc_at _ _ _ _ rfl]; rfl
  have c2 : (w.alloc (.cells #[.int .u8 k, .int .i64 a, .int .i64 b, .int .i64 c, .int .i64 d] 23)).cell? ⟨p, 2, none⟩ = some (.int .i64 b) := by rw [hp, World.cell?_alloc_at _ _ _ _ rfl]; rfl
  have c3 : (w.alloc (.cells #[.int .u8 k, .int .i64 a, .int .i64 b, .int .i64 c, .int .i64 d] 23)).cell? ⟨p, 3, none⟩ = some (.int .i64 c) := by rw [hp, World.cell?_alloc_at _ _ _ _ rfl]; rfl
  have c4 : (w.alloc (.cells #[.int .u8 k, .int .i64 a, .int .i64 b, .int .i64 c, .int .i64 d] 23)).cell? ⟨p, 4, none⟩ = some (.int .i64 d) := by rw [hp, World.cell?_alloc_at _ _ _ _ rfl]; rfl
  rw [hp] at c0 c1 c2 c3 c4
  clear hp
  rcases tg_cases k with ht | ht | ht
  · have e1 : tv k a b = a := by unfold tv; simp [ht]
    have e2 : tb k = true := by unfold tb; simp [ht]
    have e3 : rta k a a1 = a1 := by unfold rta; simp [ht]
    have e4 : rtb k b a1 = b := by unfold rtb; simp [ht]
    go_enter Tryd.func6, Tryd.ntmps6
    go_wp2_with (first | (go_at_call 11; refine (awake_any _ HL.out).mono ?_; rintro e w1 ⟨rfl, hb⟩; replace HL := Lib.hid (Laid.below HL.out hb); replace HB := below_on HB hb; replace c0 := cell_on hb c0; replace c1 := cell_on hb c1; replace c2 := cell_on hb c2; replace c3 := cell_on hb c3; replace c4 := cell_on hb c4; have hz := World.block_lt_of_cell? _ _ c0; clear hb) | (go_at_call 22; refine (target_any _ _ _ _ _ _ (by omega) HL.out).mono ?_; rintro e w1 ⟨rfl, hb⟩; replace HL := Lib.hid (Laid.below HL.out hb); replace HB := below_on HB hb; replace c0 := cell_on hb c0; replace c1 := cell_on hb c1; replace c2 := cell_on hb c2; replace c3 := cell_on hb c3; replace c4 := cell_on hb c4; have hz := World.block_lt_of_cell? _ _ c0; clear hb) | (go_at_call 23; refine (retarget_any _ _ _ _ _ _ _ (by omega) HL.out).mono ?_; rintro e w1 ⟨rfl, hb⟩; replace HL := Lib.hid (Laid.below HL.out hb); replace HB := below_on HB hb; replace c0 := cell_on hb c0; replace c1 := cell_on hb c1; replace c2 := cell_on hb c2; replace c3 := cell_on hb c3; replace c4 := cell_on hb c4; have hz := World.block_lt_of_cell? _ _ c0; clear hb) | (go_at_call 24; refine (refTarget_any _ _ (by omega)).mono ?_; rintro e w1 ⟨rfl, rfl⟩))
    go_ret
    exact ⟨by simp, HB.alloc (by omega) _⟩
  · have e1 : tv k a b = b := by unfold tv; simp [ht]
    have e2 : tb k = true := by unfold tb; simp [ht]
    have e3 : rta k a a1 = a := by unfold rta; simp [ht]
    have e4 : rtb k b a1 = a1 := by unfold rtb; simp [ht]
    go_enter Tryd.func6, Tryd.ntmps6
    go_wp2_with (first | (go_at_call 11; refine (awake_any _ HL.out).mono ?_; rintro e w1 ⟨rfl, hb⟩; replace HL := Lib.hid (Laid.below HL.out hb); replace HB := below_on HB hb; replace c0 := cell_on hb c0; replace c1 := cell_on hb c1; replace c2 := cell_on hb c2; replace c3 := cell_on hb c3; replace c4 := cell_on hb c4; have hz := World.block_lt_of_cell? _ _ c0; clear hb) | (go_at_call 22; refine (target_any _ _ _ _ _ _ (by omega) HL.out).mono ?_; rintro e w1 ⟨rfl, hb⟩; replace HL := Lib.hid (Laid.below HL.out hb); replace HB := below_on HB hb; replace c0 := cell_on hb c0; replace c1 := cell_on hb c1; replace c2 := cell_on hb c2; replace c3 := cell_on hb c3; replace c4 := cell_on hb c4; have hz := World.block_lt_of_cell? _ _ c0; clear hb) | (go_at_call 23; refine (retarget_any _ _ _ _ _ _ _ (by omega) HL.out).mono ?_; rintro e w1 ⟨rfl, hb⟩; replace HL := Lib.hid (Laid.below HL.out hb); replace HB := below_on HB hb; replace c0 := cell_on hb c0; replace c1 := cell_on hb c1; replace c2 := cell_on hb c2; replace c3 := cell_on hb c3; replace c4 := cell_on hb c4; have hz := World.block_lt_of_cell? _ _ c0; clear hb) | (go_at_call 24; refine (refTarget_any _ _ (by omega)).mono ?_; rintro e w1 ⟨rfl, rfl⟩))
    go_ret
    exact ⟨by simp, HB.alloc (by omega) _⟩
  · have e1 : tv k a b = 0 := by unfold tv; simp [ht]
    have e2 : tb k = false := by unfold tb; simp [ht]
    have e3 : rta k a a1 = a := by unfold rta; simp [ht]
    have e4 : rtb k b a1 = b := by unfold rtb; simp [ht]
    go_enter Tryd.func6, Tryd.ntmps6
    go_wp2_with (first | (go_at_call 11; refine (awake_any _ HL.out).mono ?_; rintro e w1 ⟨rfl, hb⟩; replace HL := Lib.hid (Laid.below HL.out hb); replace HB := below_on HB hb; replace c0 := cell_on hb c0; replace c1 := cell_on hb c1; replace c2 := cell_on hb c2; replace c3 := cell_on hb c3; replace c4 := cell_on hb c4; have hz := World.block_lt_of_cell? _ _ c0; clear hb) | (go_at_call 22; refine (target_any _ _ _ _ _ _ (by omega) HL.out).mono ?_; rintro e w1 ⟨rfl, hb⟩; replace HL := Lib.hid (Laid.below HL.out hb); replace HB := below_on HB hb; replace c0 := cell_on hb c0; replace c1 := cell_on hb c1; replace c2 := cell_on hb c2; replace c3 := cell_on hb c3; replace c4 := cell_on hb c4; have hz := World.block_lt_of_cell? _ _ c0; clear hb) | (go_at_call 23; refine (retarget_any _ _ _ _ _ _ _ (by omega) HL.out).mono ?_; rintro e w1 ⟨rfl, hb⟩; replace HL := Lib.hid (Laid.below HL.out hb); replace HB := below_on HB hb; replace c0 := cell_on hb c0; replace c1 := cell_on hb c1; replace c2 := cell_on hb c2; replace c3 := cell_on hb c3; replace c4 := cell_on hb c4; have hz := World.block_lt_of_cell? _ _ c0; clear hb) | (go_at_call 24; refine (refTarget_any _ _ (by omega)).mono ?_; rintro e w1 ⟨rfl, rfl⟩))
    go_ret
    exact ⟨by simp, HB.alloc (by omega) _⟩

set_option maxRecDepth 100000 in
theorem lifted (os : Os) (started : os.Started) (H : Type) (enc : TypeId × Value → H) :
    ReturnsInHanded {} Tryd.checked os 6 .any (fun w args => (Rows.isaTargetsSpec.pre enc Tryd.prog Tryd.f6 [] false w args ∧ laidMetH Tryd.prog laidL w) ∧ sizedMet enc Tryd.prog Tryd.f6 (OpenSpec.ofChange Rows.isaTargetsSpec) false w args)
      (Rows.isaTargetsSpec.post enc Tryd.prog Tryd.f6 false true false false) := by
  refine returnsInHanded_of_change_and (C := Tryd.checked) (X := fun w _ => laidMetH Tryd.prog laidL w) (fun _ _ _ hh h => h.of_heap hh) own started (by kernel_rfl) Tryd.func6
    (ChangeSpec.witness_shaped (enc := enc) (C := Tryd.checked) (os := os) (X := fun w _ => laidMetH Tryd.prog laidL w) false (World.doorLaid Tryd.prog 400 os) #[.agg #[.int .u8 0, .int .i64 0, .int .i64 0, .int .i64 0, .int .i64 0], .int .i64 0] 8 rfl (World.shaped_of_RefB (by kernel_rfl) (by kernel_rfl)) (by kernel_rfl) (by kernel_rfl) (by kernel_rfl) (door_met os _)) ?_
  intro W base args ds gs before hval0 hW _ _ hLm _
  have hL := of_laid hLm
  have hval : ∀ (j : Nat) t v, Tryd.f6.params[j]? = some t → args[j]? = some v → Value.okWide Tryd.prog W .any base t v := hval0
  have hW' := hW
  obtain ⟨p, q, hA0, hV, rfl, hfz, hnd⟩ := hW
  have hA : DataW.TrodAll enc Tryd.prog W 0 (fun _ => true) true Tryd.f6.params.toList args.toList ds p := hA0
  rw [Tryd.params6] at hA hval
  obtain ⟨v0, vs0, d0, ds0, p0, q0, hargs, rfl, rfl, h0, r0⟩ := trodAll_cons hA
  obtain ⟨v1, vs1, d1, ds1, p1, q1, rfl, rfl, rfl, h1, r1⟩ := trodAll_cons r0
  obtain ⟨rfl, rfl, rfl⟩ := trodAll_nil r1
  obtain rfl : args = #[v0, v1] := by cases args; simp_all
  obtain ⟨rfl, rfl⟩ := trodVars_none hV
  have k0 := h0
  have lt0 : ∀ x ∈ p0, x.block < W.heap.size := by obtain ⟨m, hm⟩ := k0; exact DataW.trod_lt m _ _ _ hm
  obtain ⟨k, a, b, c, d, rfl, wk⟩ := open_instr (hval 0 23 v0 rfl rfl) h0
  obtain ⟨a1, rfl, rfl, rfl, w1⟩ := open_int Tryd.underlying3 (hval 1 3 v1 rfl rfl) h1
  clear hA0 hval0
  refine (walk k a b c d a1 W wk w1 hL).mono fun e W' ⟨he, bel⟩ => ?_
  subst he
  exact ⟨_, rfl, _, _, _, [], _, [], hW', trodAll_mk1 (shut_bool Tryd.underlying4 _), (trodAll_cons_mk (Below.trod laidOut (by kernel_rfl) (of_decide_eq_true (by kernel_rfl)) k0 bel lt0) (trodAll_cons_mk (shut_int Tryd.underlying3 w1) trodAll_mk0)), rfl, bel.frame _, fun h => by cases h⟩

theorem over : Rows.isaTargetsRow.holds Tryd.pinned (OpenSpec.ofChange Rows.isaTargetsSpec) :=
  OpenClaim.holds_of_wide 6 Tryd.f6 rfl rfl rfl rfl rfl rfl rfl ⟨rfl, rfl, rfl, rfl, rfl⟩ rfl rfl rfl rfl rfl (by kernel_rfl) Tryd.func6 (by kernel_rfl)
    (of_decide_eq_true (by kernel_rfl)) (by unfold Func.isWrapper; first | (rw [if_pos (by decide +kernel)]; kernel_rfl) | (rw [if_neg (by decide +kernel)]; exact ⟨rfl, rfl⟩))
    (fun os started H enc _ => lifted os started H enc)

theorem proved : Rows.IsaTargetsCardSaid :=
  Claim7.holds_tied_plain_at .later [] [.data] true (true, "2389f407b72fa143690d231ca26cdb4e51a35b09ef9262f4ce06b412881d1a45") false
    over (fun _ h => by cases h) (by kernel_rfl) (fun _ h => by cases h) isaTargets_row_tie rfl ⟨rfl, rfl⟩ (by kernel_rfl) rfl
    (fun f fn hf hfn => by
      obtain rfl : f = 6 := Option.some.inj ((show Tryd.prog.funcNamed "backstep/backsteplaw21.IsaTargets" = some 6 by kernel_rfl).symm.trans hf) |>.symm
      obtain rfl : fn = Tryd.f6 := (Option.some.inj (Tryd.func6.symm.trans hfn)).symm
      exact ⟨by kernel_rfl, fun j t ht => by
        rw [Tryd.params6] at ht
        have hm : t ∈ [23, 3] := by simpa using Array.mem_of_getElem? ht
        have hall : ([23, 3].all fun u => !Tryd.prog.wantsStandIn u) = true := by kernel_rfl
        exact (show Tryd.prog.wantsStandIn t = false by simpa using List.all_eq_true.1 hall t hm)⟩)
    (by kernel_rfl)
#print axioms proved
end Go.Proofs.YtgpcgkccfefdfaaDoor.isaTargets
