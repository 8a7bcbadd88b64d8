/- The tied card of IsaNames: it answers true for every opcode byte, where the table of instructions holds what the program's text lays in it. -/
import Derived.Test.YtgpcgkccfefdfaaDoorRows
import Derived.Test.YtgpcgkccfefdfaaDoorCards
import Derived.Test.YtgpcgkccfefdfaaDoorTie
import Derived.LaidMore
import Derived.Stop.Joined
import Derived.SevenTiedAt
import Derived.WalkKit
import Derived.ProofKit
import Derived.OpenShut
import Derived.ShutString
import Derived.ChangeOld
import Derived.Below
import Derived.Test.YtgpcgkccfefdfaaDoorInv
import Derived.Lib.Hide
import Derived.Deep.RegionHeld3
import Derived.Deep.QuietTactic
import Derived.BigQuiet
import Derived.WalkSmall
import Derived.Outline
namespace Go.Proofs.YtgpcgkccfefdfaaDoor.isaNames
open Go.ChangeShapes Go.WideShapes Go.ChangeAt Go.RowKit
open Go.ChangeMaps (open_string shut_string)
set_option linter.unusedSimpArgs false
set_option linter.unusedVariables false

theorem own : ownKnob Tryd.prog.godebug = none := by kernel_rfl
theorem laidOut : laidOutB Tryd.prog = true := by kernel_rfl

/-- what the listed variables hold when the call begins -/
abbrev laidL {H : Type} : List (String × DataW H) := [("backstep/isa.table", Rows.laid_backstep_isa_table)]
theorem gno0 : Tryd.prog.globalNamed "backstep/isa.table" = some 0 := by kernel_rfl
theorem gty0 : (Tryd.prog.globals[0]?).map (·.type) = some 51 := by kernel_rfl
theorem door_met (os : Os) (args : Array Value) : laidMetH Tryd.prog laidL ((World.doorLaid Tryd.prog 400 os).forCall (fun _ _ => 0) ⟨#[], args, []⟩).memory :=
  laidMetH_of_parts3 (fuel := 8) (laidMet_of_run' 8 (by kernel_rfl) (by kernel_rfl)) (by kernel_rfl) (by kernel_rfl)

def Laid (W : World) : Prop := Go.Proofs.YtgpcgkccfefdfaaDoor.Laid W
theorem of_laid {W : World} (h : laidMetH Tryd.prog laidL W) : Laid W := by
  rw [MakeChecks.laidMetH_plain _ _ _ (by kernel_rfl)] at h
  obtain ⟨ps, ⟨g0, t0, cs0, f0, p0, q0, hg0, ht0, hv0, hd0, _, _⟩, _, _⟩ := h
  obtain rfl := Option.some.inj (gno0.symm.trans hg0)
  obtain rfl := Option.some.inj (gty0.symm.trans ht0)
  intro n hn
  have hd : DataW.trod (fun _ : TypeId × Value => ()) Tryd.prog W 0 (fun _ => true) false f0 51 cs0.toList = some (Rows.laid_backstep_isa_table, p0) := hd0
  have hr := pair_at Tryd.underlying51 Tryd.underlying41 (by kernel_rfl) (by kernel_rfl) Tryd.underlying9 ⟨rfl, rfl⟩ ⟨rfl, rfl⟩ hd n _ _ (table_at n hn)
  rw [Array.getElem?_toList, Array.getElem?_toList] at hr
  exact ⟨(World.var?_cell hg0 hv0 (n * 2)).trans hr.1, (World.var?_cell hg0 hv0 (n * 2 + 1)).trans hr.2⟩

set_option maxHeartbeats 8000000 in
theorem walk (a0 : Int) (w : World) (w0 : (Lit.int .u8 a0).wf = true) (hL : Laid w) :
    Calls Tryd.prog 5 #[.int .u8 a0] w fun e w' => e = .returned (.bool true) ∧ Below w.heap.size w w' := by
  have bk := bounds_u8 w0
  have HL := Lib.hid hL
  have HB : Below w.heap.size w w := Below.refl _ _
  clear hL
  by_cases h22 : a0 = 22
  · subst h22
    have e1 : jmp 22 = true := rfl
    have e2 : lnd 22 = false := rfl
    go_enter Tryd.func5, Tryd.ntmps5
    go_wp2_with (first | (go_at_call 11; refine (awake_any _ HL.out).mono ?_; rintro e w1 ⟨rfl, hb⟩; replace HL := Lib.hid (Laid.below HL.out hb); replace HB := below_on HB hb; clear hb) | (go_at_call 16; refine (shape_any _ _ (by omega)).mono ?_; rintro e w1 ⟨rfl, rfl⟩) | (go_at_call 17; refine (mnemonic_any _ _ (by omega) HL.out).mono ?_; rintro e w1 ⟨rfl, hb⟩; replace HL := Lib.hid (Laid.below HL.out hb); replace HB := below_on HB hb; clear hb) | (go_at_call 18; refine (refMnemonic_any _ _ (by omega)).mono ?_; rintro e w1 ⟨rfl, hb⟩; replace HL := Lib.hid (Laid.below HL.out hb); replace HB := below_on HB hb; clear hb) | (go_at_call 19; refine (operands_any _ _ (by omega) HL.out).mono ?_; rintro e w1 ⟨rfl, hb⟩; replace HL := Lib.hid (Laid.below HL.out hb); replace HB := below_on HB hb; clear hb) | (go_at_call 20; refine (isJump_any _ _).mono ?_; rintro e w1 ⟨rfl, rfl⟩) | (go_at_call 21; refine (isLanding_any _ _).mono ?_; rintro e w1 ⟨rfl, rfl⟩))
    go_ret
    exact ⟨by simp, HB⟩
  by_cases h23 : a0 = 23
  · subst h23
    have e1 : jmp 23 = true := rfl
    have e2 : lnd 23 = false := rfl
    go_enter Tryd.func5, Tryd.ntmps5
    go_wp2_with (first | (go_at_call 11; refine (awake_any _ HL.out).mono ?_; rintro e w1 ⟨rfl, hb⟩; replace HL := Lib.hid (Laid.below HL.out hb); replace HB := below_on HB hb; clear hb) | (go_at_call 16; refine (shape_any _ _ (by omega)).mono ?_; rintro e w1 ⟨rfl, rfl⟩) | (go_at_call 17; refine (mnemonic_any _ _ (by omega) HL.out).mono ?_; rintro e w1 ⟨rfl, hb⟩; replace HL := Lib.hid (Laid.below HL.out hb); replace HB := below_on HB hb; clear hb) | (go_at_call 18; refine (refMnemonic_any _ _ (by omega)).mono ?_; rintro e w1 ⟨rfl, hb⟩; replace HL := Lib.hid (Laid.below HL.out hb); replace HB := below_on HB hb; clear hb) | (go_at_call 19; refine (operands_any _ _ (by omega) HL.out).mono ?_; rintro e w1 ⟨rfl, hb⟩; replace HL := Lib.hid (Laid.below HL.out hb); replace HB := below_on HB hb; clear hb) | (go_at_call 20; refine (isJump_any _ _).mono ?_; rintro e w1 ⟨rfl, rfl⟩) | (go_at_call 21; refine (isLanding_any _ _).mono ?_; rintro e w1 ⟨rfl, rfl⟩))
    go_ret
    exact ⟨by simp, HB⟩
  by_cases h24 : a0 = 24
  · subst h24
    have e1 : jmp 24 = true := rfl
    have e2 : lnd 24 = false := rfl
    go_enter Tryd.func5, Tryd.ntmps5
    go_wp2_with (first | (go_at_call 11; refine (awake_any _ HL.out).mono ?_; rintro e w1 ⟨rfl, hb⟩; replace HL := Lib.hid (Laid.below HL.out hb); replace HB := below_on HB hb; clear hb) | (go_at_call 16; refine (shape_any _ _ (by omega)).mono ?_; rintro e w1 ⟨rfl, rfl⟩) | (go_at_call 17; refine (mnemonic_any _ _ (by omega) HL.out).mono ?_; rintro e w1 ⟨rfl, hb⟩; replace HL := Lib.hid (Laid.below HL.out hb); replace HB := below_on HB hb; clear hb) | (go_at_call 18; refine (refMnemonic_any _ _ (by omega)).mono ?_; rintro e w1 ⟨rfl, hb⟩; replace HL := Lib.hid (Laid.below HL.out hb); replace HB := below_on HB hb; clear hb) | (go_at_call 19; refine (operands_any _ _ (by omega) HL.out).mono ?_; rintro e w1 ⟨rfl, hb⟩; replace HL := Lib.hid (Laid.below HL.out hb); replace HB := below_on HB hb; clear hb) | (go_at_call 20; refine (isJump_any _ _).mono ?_; rintro e w1 ⟨rfl, rfl⟩) | (go_at_call 21; refine (isLanding_any _ _).mono ?_; rintro e w1 ⟨rfl, rfl⟩))
    go_ret
    exact ⟨by simp, HB⟩
  by_cases h25 : a0 = 25
  · subst h25
    have e1 : jmp 25 = false := rfl
    have e2 : lnd 25 = true := rfl
    go_enter Tryd.func5, Tryd.ntmps5
    go_wp2_with (first | (go_at_call 11; refine (awake_any _ HL.out).mono ?_; rintro e w1 ⟨rfl, hb⟩; replace HL := Lib.hid (Laid.below HL.out hb); replace HB := below_on HB hb; clear hb) | (go_at_call 16; refine (shape_any _ _ (by omega)).mono ?_; rintro e w1 ⟨rfl, rfl⟩) | (go_at_call 17; refine (mnemonic_any _ _ (by omega) HL.out).mono ?_; rintro e w1 ⟨rfl, hb⟩; replace HL := Lib.hid (Laid.below HL.out hb); replace HB := below_on HB hb; clear hb) | (go_at_call 18; refine (refMnemonic_any _ _ (by omega)).mono ?_; rintro e w1 ⟨rfl, hb⟩; replace HL := Lib.hid (Laid.below HL.out hb); replace HB := below_on HB hb; clear hb) | (go_at_call 19; refine (operands_any _ _ (by omega) HL.out).mono ?_; rintro e w1 ⟨rfl, hb⟩; replace HL := Lib.hid (Laid.below HL.out hb); replace HB := below_on HB hb; clear hb) | (go_at_call 20; refine (isJump_any _ _).mono ?_; rintro e w1 ⟨rfl, rfl⟩) | (go_at_call 21; refine (isLanding_any _ _).mono ?_; rintro e w1 ⟨rfl, rfl⟩))
    go_ret
    exact ⟨by simp, HB⟩
  by_cases h26 : a0 = 26
  · subst h26
    have e1 : jmp 26 = false := rfl
    have e2 : lnd 26 = true := rfl
    go_enter Tryd.func5, Tryd.ntmps5
    go_wp2_with (first | (go_at_call 11; refine (awake_any _ HL.out).mono ?_; rintro e w1 ⟨rfl, hb⟩; replace HL := Lib.hid (Laid.below HL.out hb); replace HB := below_on HB hb; clear hb) | (go_at_call 16; refine (shape_any _ _ (by omega)).mono ?_; rintro e w1 ⟨rfl, rfl⟩) | (go_at_call 17; refine (mnemonic_any _ _ (by omega) HL.out).mono ?_; rintro e w1 ⟨rfl, hb⟩; replace HL := Lib.hid (Laid.below HL.out hb); replace HB := below_on HB hb; clear hb) | (go_at_call 18; refine (refMnemonic_any _ _ (by omega)).mono ?_; rintro e w1 ⟨rfl, hb⟩; replace HL := Lib.hid (Laid.below HL.out hb); replace HB := below_on HB hb; clear hb) | (go_at_call 19; refine (operands_any _ _ (by omega) HL.out).mono ?_; rintro e w1 ⟨rfl, hb⟩; replace HL := Lib.hid (Laid.below HL.out hb); replace HB := below_on HB hb; clear hb) | (go_at_call 20; refine (isJump_any _ _).mono ?_; rintro e w1 ⟨rfl, rfl⟩) | (go_at_call 21; refine (isLanding_any _ _).mono ?_; rintro e w1 ⟨rfl, rfl⟩))
    go_ret
    exact ⟨by simp, HB⟩
  by_cases h27 : a0 = 27
  · subst h27
    have e1 : jmp 27 = false := rfl
    have e2 : lnd 27 = true := rfl
    go_enter Tryd.func5, Tryd.ntmps5
    go_wp2_with (first | (go_at_call 11; refine (awake_any _ HL.out).mono ?_; rintro e w1 ⟨rfl, hb⟩; replace HL := Lib.hid (Laid.below HL.out hb); replace HB := below_on HB hb; clear hb) | (go_at_call 16; refine (shape_any _ _ (by omega)).mono ?_; rintro e w1 ⟨rfl, rfl⟩) | (go_at_call 17; refine (mnemonic_any _ _ (by omega) HL.out).mono ?_; rintro e w1 ⟨rfl, hb⟩; replace HL := Lib.hid (Laid.below HL.out hb); replace HB := below_on HB hb; clear hb) | (go_at_call 18; refine (refMnemonic_any _ _ (by omega)).mono ?_; rintro e w1 ⟨rfl, hb⟩; replace HL := Lib.hid (Laid.below HL.out hb); replace HB := below_on HB hb; clear hb) | (go_at_call 19; refine (operands_any _ _ (by omega) HL.out).mono ?_; rintro e w1 ⟨rfl, hb⟩; replace HL := Lib.hid (Laid.below HL.out hb); replace HB := below_on HB hb; clear hb) | (go_at_call 20; refine (isJump_any _ _).mono ?_; rintro e w1 ⟨rfl, rfl⟩) | (go_at_call 21; refine (isLanding_any _ _).mono ?_; rintro e w1 ⟨rfl, rfl⟩))
    go_ret
    exact ⟨by simp, HB⟩
  have b22 : (a0 == 22) = false := by simpa using h22
  have b23 : (a0 == 23) = false := by simpa using h23
  have b24 : (a0 == 24) = false := by simpa using h24
  have b25 : (a0 == 25) = false := by simpa using h25
  have b26 : (a0 == 26) = false := by simpa using h26
  have b27 : (a0 == 27) = false := by simpa using h27
  have e1 : jmp a0 = false := by simp [jmp, *]
  have e2 : lnd a0 = false := by simp [lnd, *]
  clear h22 h23 h24 h25 h26 h27
  go_enter Tryd.func5, Tryd.ntmps5
  go_wp2_with (first | (go_at_call 11; refine (awake_any _ HL.out).mono ?_; rintro e w1 ⟨rfl, hb⟩; replace HL := Lib.hid (Laid.below HL.out hb); replace HB := below_on HB hb; clear hb) | (go_at_call 16; refine (shape_any _ _ (by omega)).mono ?_; rintro e w1 ⟨rfl, rfl⟩) | (go_at_call 17; refine (mnemonic_any _ _ (by omega) HL.out).mono ?_; rintro e w1 ⟨rfl, hb⟩; replace HL := Lib.hid (Laid.below HL.out hb); replace HB := below_on HB hb; clear hb) | (go_at_call 18; refine (refMnemonic_any _ _ (by omega)).mono ?_; rintro e w1 ⟨rfl, hb⟩; replace HL := Lib.hid (Laid.below HL.out hb); replace HB := below_on HB hb; clear hb) | (go_at_call 19; refine (operands_any _ _ (by omega) HL.out).mono ?_; rintro e w1 ⟨rfl, hb⟩; replace HL := Lib.hid (Laid.below HL.out hb); replace HB := below_on HB hb; clear hb) | (go_at_call 20; refine (isJump_any _ _).mono ?_; rintro e w1 ⟨rfl, rfl⟩) | (go_at_call 21; refine (isLanding_any _ _).mono ?_; rintro e w1 ⟨rfl, rfl⟩))
  go_ret
  exact ⟨by simp, HB⟩

set_option maxRecDepth 100000 in
theorem lifted (os : Os) (started : os.Started) (H : Type) (enc : TypeId × Value → H) :
    ReturnsInHanded {} Tryd.checked os 5 .any (fun w args => (Rows.isaNamesSpec.pre enc Tryd.prog Tryd.f5 [] false w args ∧ laidMetH Tryd.prog laidL w) ∧ sizedMet enc Tryd.prog Tryd.f5 (OpenSpec.ofChange Rows.isaNamesSpec) false w args)
      (Rows.isaNamesSpec.post enc Tryd.prog Tryd.f5 false true false false) := by
  refine returnsInHanded_of_change_and (C := Tryd.checked) (X := fun w _ => laidMetH Tryd.prog laidL w) (fun _ _ _ hh h => h.of_heap hh) own started (by kernel_rfl) Tryd.func5
    (ChangeSpec.witness_shaped (enc := enc) (C := Tryd.checked) (os := os) (X := fun w _ => laidMetH Tryd.prog laidL w) false (World.doorLaid Tryd.prog 400 os) #[.int .u8 0] 8 rfl (World.shaped_of_RefB (by kernel_rfl) (by kernel_rfl)) (by kernel_rfl) (by kernel_rfl) (by kernel_rfl) (door_met os _)) ?_
  intro W base args ds gs before hval0 hW _ _ hLm _
  have hL := of_laid hLm
  have hval : ∀ (j : Nat) t v, Tryd.f5.params[j]? = some t → args[j]? = some v → Value.okWide Tryd.prog W .any base t v := hval0
  have hW' := hW
  obtain ⟨p, q, hA0, hV, rfl, hfz, hnd⟩ := hW
  have hA : DataW.TrodAll enc Tryd.prog W 0 (fun _ => true) true Tryd.f5.params.toList args.toList ds p := hA0
  rw [Tryd.params5] at hA hval
  obtain ⟨v0, vs0, d0, ds0, p0, q0, hargs, rfl, rfl, h0, r0⟩ := trodAll_cons hA
  obtain ⟨rfl, rfl, rfl⟩ := trodAll_nil r0
  obtain rfl : args = #[v0] := by cases args; simp_all
  obtain ⟨rfl, rfl⟩ := trodVars_none hV
  obtain ⟨a0, rfl, rfl, rfl, w0⟩ := open_int Tryd.underlying5 (hval 0 5 v0 rfl rfl) h0
  clear hA0 hval0
  refine (walk a0 W w0 hL).mono fun e W' ⟨he, bel⟩ => ?_
  subst he
  exact ⟨_, rfl, _, _, _, [], _, [], hW', trodAll_mk1 (shut_bool Tryd.underlying4 _), (trodAll_cons_mk (shut_int Tryd.underlying5 w0) trodAll_mk0), rfl, bel.frame _, fun h => by cases h⟩

theorem over : Rows.isaNamesRow.holds Tryd.pinned (OpenSpec.ofChange Rows.isaNamesSpec) :=
  OpenClaim.holds_of_wide 5 Tryd.f5 rfl rfl rfl rfl rfl rfl rfl ⟨rfl, rfl, rfl, rfl, rfl⟩ rfl rfl rfl rfl rfl (by kernel_rfl) Tryd.func5 (by kernel_rfl)
    (of_decide_eq_true (by kernel_rfl)) (by unfold Func.isWrapper; first | (rw [if_pos (by decide +kernel)]; kernel_rfl) | (rw [if_neg (by decide +kernel)]; exact ⟨rfl, rfl⟩))
    (fun os started H enc _ => lifted os started H enc)

theorem proved : Rows.IsaNamesCardSaid :=
  Claim7.holds_tied_plain_at .later [] [.data] true (true, "2389f407b72fa143690d231ca26cdb4e51a35b09ef9262f4ce06b412881d1a45") false
    over (fun _ h => by cases h) (by kernel_rfl) (fun _ h => by cases h) isaNames_row_tie rfl ⟨rfl, rfl⟩ (by kernel_rfl) rfl
    (fun f fn hf hfn => by
      obtain rfl : f = 5 := Option.some.inj ((show Tryd.prog.funcNamed "backstep/backsteplaw21.IsaNames" = some 5 by kernel_rfl).symm.trans hf) |>.symm
      obtain rfl : fn = Tryd.f5 := (Option.some.inj (Tryd.func5.symm.trans hfn)).symm
      exact ⟨by kernel_rfl, fun j t ht => by
        rw [Tryd.params5] at ht
        have hm : t ∈ [5] := by simpa using Array.mem_of_getElem? ht
        have hall : ([5].all fun u => !Tryd.prog.wantsStandIn u) = true := by kernel_rfl
        exact (show Tryd.prog.wantsStandIn t = false by simpa using List.all_eq_true.1 hall t hm)⟩)
    (by kernel_rfl)
#print axioms proved
end Go.Proofs.YtgpcgkccfefdfaaDoor.isaNames
