/- The tied card of ImageTwice: it answers true for every image, where the table of instructions holds what the program's text lays in it. -/
import Derived.Test.YtalkhkhnpplofaaDoorRows
import Derived.Test.YtalkhkhnpplofaaDoorCards
import Derived.Test.YtalkhkhnpplofaaDoorTie
import Derived.LaidMore
import Derived.Stop.Joined
import Derived.SevenTiedAt
import Derived.WalkKit
import Derived.ProofKit
import Derived.OpenShut
import Derived.ShutString
import Derived.ChangeOld
import Derived.Below
import Derived.Test.YtalkhkhnpplofaaDoorArg
import Derived.Lib.Hide
import Derived.Deep.RegionHeld3
import Derived.Deep.QuietTactic
import Derived.BigQuiet
import Derived.WalkSmall
import Derived.Outline
import Derived.IntWalk
import Derived.StillTailTactics
import Derived.Handy
import Derived.Deep.Cut
import Derived.Deep.OwnRows
import Derived.Deep.RegionWith
import Derived.WalkLawsBesides
import Derived.WalkSpells
import Derived.Test.YtalkhkhnpplofaaDoorMir
namespace Go.Proofs.YtalkhkhnpplofaaDoor.imageTwice
open Go.ChangeShapes Go.WideShapes Go.ChangeAt Go.RowKit
open Go.ChangeMaps (open_string shut_string)
set_option linter.unusedSimpArgs false
set_option linter.unusedVariables false

theorem own : ownKnob Tryd.prog.godebug = none := by kernel_rfl
theorem laidOut : laidOutB Tryd.prog = true := by kernel_rfl

/-- what the listed variables hold when the call begins -/
abbrev laidL {H : Type} : List (String × DataW H) := [("backstep/isa.table", Rows.laid_backstep_isa_table)]
theorem gno0 : Tryd.prog.globalNamed "backstep/isa.table" = some 0 := by kernel_rfl
theorem gty0 : (Tryd.prog.globals[0]?).map (·.type) = some 80 := by kernel_rfl
theorem door_met (os : Os) (args : Array Value) : laidMetH Tryd.prog laidL ((World.doorLaid Tryd.prog 400 os).forCall (fun _ _ => 0) ⟨#[], args, []⟩).memory :=
  laidMetH_of_parts3 (fuel := 8) (laidMet_of_run' 8 (by kernel_rfl) (by kernel_rfl)) (by kernel_rfl) (by kernel_rfl)
theorem invL_wf {l : List Ins} (h : WF l) : WF (invL l) := fun y hy => by
  obtain ⟨x, hx, rfl⟩ := List.mem_map.1 (List.mem_reverse.1 hy)
  exact inv_range _ (h x hx)

def Laid (W : World) : Prop := Go.Proofs.YtalkhkhnpplofaaDoor.Laid W
theorem of_laid {W : World} (h : laidMetH Tryd.prog laidL W) : Laid W := by
  rw [MakeChecks.laidMetH_plain _ _ _ (by kernel_rfl)] at h
  obtain ⟨ps, ⟨g0, t0, cs0, f0, p0, q0, hg0, ht0, hv0, hd0, _, _⟩, _, _⟩ := h
  obtain rfl := Option.some.inj (gno0.symm.trans hg0)
  obtain rfl := Option.some.inj (gty0.symm.trans ht0)
  intro n hn
  have hd : DataW.trod (fun _ : TypeId × Value => ()) Tryd.prog W 0 (fun _ => true) false f0 80 cs0.toList = some (Rows.laid_backstep_isa_table, p0) := hd0
  have hr := pair_at Tryd.underlying80 Tryd.underlying65 (by kernel_rfl) (by kernel_rfl) Tryd.underlying9 ⟨rfl, rfl⟩ ⟨rfl, rfl⟩ hd n _ _ (table_at n hn)
  rw [Array.getElem?_toList, Array.getElem?_toList] at hr
  exact ⟨(World.var?_cell hg0 hv0 (n * 2)).trans hr.1, (World.var?_cell hg0 hv0 (n * 2 + 1)).trans hr.2⟩

set_option maxRecDepth 100000 in
set_option maxHeartbeats 2000000 in
theorem walk (a : Option Addr) (n cap : Nat) (m s : Int) (l : List Ins) (w : World) (hn : l.length = n) (hb : n ≤ maxLen) (hS : SliceC w a l) (hw : WF l) (hL : Laid w) :
    Calls Tryd.prog 6 #[.agg #[.slice a n cap, .int .i64 m, .int .i64 s]] w fun e w' => e = .returned (.bool true) ∧ Below w.heap.size w w' := by
  have HS := Lib.hid hS
  have HL := Lib.hid hL
  have HN := Lib.hid hn
  have HB : Hid (Below w.heap.size w (w.alloc (.cells #[.slice a n cap, .int .i64 m, .int .i64 s] 24))) := Lib.hid ((Below.refl _ _).alloc (Nat.le_refl _) _)
  have c0 : (w.alloc (.cells #[.slice a n cap, .int .i64 m, .int .i64 s] 24)).cell? ⟨w.heap.size, 0, none⟩ = some (.slice a n cap) := by go_simp
  have c1 : (w.alloc (.cells #[.slice a n cap, .int .i64 m, .int .i64 s] 24)).cell? ⟨w.heap.size, 1, none⟩ = some (.int .i64 m) := by go_simp
  have c2 : (w.alloc (.cells #[.slice a n cap, .int .i64 m, .int .i64 s] 24)).cell? ⟨w.heap.size, 2, none⟩ = some (.int .i64 s) := by go_simp
  unfold maxLen at hb
  clear hS hL hn
  by_cases hg : (80 : Int) < (n : Int)
  · have HG := Lib.hid (decide_eq_true hg)
    go_enter Tryd.func6, Tryd.ntmps6
    go_wp2_with (first | (go_at_call 12; refine (awake_any _ (HL.out.below HB.out)).mono ?_; rintro e w1 ⟨rfl, hx⟩; replace HB := Lib.hid (below_on HB.out hx); replace c0 := cell_on hx c0; replace c1 := cell_on hx c1; replace c2 := cell_on hx c2; clear hx) | (go_at_call 13; refine (great_any _ _ _ _ _ _).mono ?_; rintro e w1 ⟨rfl, hx⟩; rw [HG.out]; replace HB := Lib.hid (below_on HB.out hx); replace c0 := cell_on hx c0; replace c1 := cell_on hx c1; replace c2 := cell_on hx c2; clear hx))
    go_ret
    exact ⟨rfl, HB.out⟩
  have HG := Lib.hid (decide_eq_false hg)
  by_cases hv : ckE l m s = 0
  case neg =>
    have HVB := Lib.hid (show (ckE l m s == 0) = false by simpa using hv)
    clear hv
    go_enter Tryd.func6, Tryd.ntmps6
    go_wp2_with (first | (go_at_call 12; refine (awake_any _ (HL.out.below HB.out)).mono ?_; rintro e w1 ⟨rfl, hx⟩; replace HB := Lib.hid (below_on HB.out hx); replace c0 := cell_on hx c0; replace c1 := cell_on hx c1; replace c2 := cell_on hx c2; clear hx) | (go_at_call 13; refine (great_any _ _ _ _ _ _).mono ?_; rintro e w1 ⟨rfl, hx⟩; rw [HG.out]; replace HB := Lib.hid (below_on HB.out hx); replace c0 := cell_on hx c0; replace c1 := cell_on hx c1; replace c2 := cell_on hx c2; clear hx) | (go_at_call 16; refine (valid_img _ n cap m s l _ (HS.out.below HB.out) HN.out hw (HL.out.below HB.out) (by omega)).mono ?_; rintro e w1 ⟨rfl, hx⟩; rw [HVB.out]; replace HB := Lib.hid (below_on HB.out hx); replace c0 := cell_on hx c0; replace c1 := cell_on hx c1; replace c2 := cell_on hx c2; clear hx))
    go_ret
    exact ⟨rfl, HB.out⟩
  have HVB := Lib.hid (show (ckE l m s == 0) = true by simpa using hv)
  have HE := Lib.hid hv
  have HR := Lib.hid (wd_ck.1 hv).1
  have HW := Lib.hid (wd_ck.1 hv).2
  clear hv
  have EI := Lib.hid (show ckE (invL l) m s = 0 from wd_ck.2 ⟨HR.out, HW.out.inv (by have := HN.out; omega)⟩)
  have EIB := Lib.hid (show (ckE (invL l) m s == 0) = true by simpa using EI.out)
  have WI := Lib.hid (invL_wf hw)
  have HSM := Lib.hid (show sameB m s m s (invL (invL l)) l = true by unfold sameB; rw [HW.out.twice (by have := HN.out; omega)]; simp)
  have tok21 : True := trivial
  have tok16 : True := trivial
  go_enter Tryd.func6, Tryd.ntmps6
  go_wp2_with (first | (go_at_call 12; refine (awake_any _ (HL.out.below HB.out)).mono ?_; rintro e w1 ⟨rfl, hx⟩; replace HB := Lib.hid (below_on HB.out hx); replace c0 := cell_on hx c0; replace c1 := cell_on hx c1; replace c2 := cell_on hx c2; clear hx) | (go_at_call 13; refine (great_any _ _ _ _ _ _).mono ?_; rintro e w1 ⟨rfl, hx⟩; rw [HG.out]; replace HB := Lib.hid (below_on HB.out hx); replace c0 := cell_on hx c0; replace c1 := cell_on hx c1; replace c2 := cell_on hx c2; clear hx) | (go_at_call 16; have _t := tok16; refine (valid_img _ n cap m s l _ (HS.out.below HB.out) HN.out hw (HL.out.below HB.out) (by omega)).mono ?_; rintro e w1 ⟨rfl, hx⟩; rw [HVB.out]; replace HB := Lib.hid (below_on HB.out hx); replace c0 := cell_on hx c0; replace c1 := cell_on hx c1; replace c2 := cell_on hx c2; clear hx tok16 _t) | (go_at_call 21; have _t := tok21; refine (invert_ok _ n cap m s l _ (HS.out.below HB.out) HN.out hw (HL.out.below HB.out) (by omega) HE.out).mono ?_; rintro e w2 ⟨g, rfl, hsx, hx⟩; replace HB := Lib.hid (below_on HB.out hx); replace c0 := cell_on hx c0; replace c1 := cell_on hx c1; replace c2 := cell_on hx c2; replace HB := Lib.hid (below_on HB.out (below_new w2 (.cells #[.slice (some ⟨g, 0, none⟩) n n, .int .i64 m, .int .i64 s] 24))); replace c0 := cell_on (below_new w2 (.cells #[.slice (some ⟨g, 0, none⟩) n n, .int .i64 m, .int .i64 s] 24)) c0; replace c1 := cell_on (below_new w2 (.cells #[.slice (some ⟨g, 0, none⟩) n n, .int .i64 m, .int .i64 s] 24)) c1; replace c2 := cell_on (below_new w2 (.cells #[.slice (some ⟨g, 0, none⟩) n n, .int .i64 m, .int .i64 s] 24)) c2; have x0 : (w2.alloc (.cells #[.slice (some ⟨g, 0, none⟩) n n, .int .i64 m, .int .i64 s] 24)).cell? ⟨w2.heap.size, 0, none⟩ = some (.slice (some ⟨g, 0, none⟩) n n) := (by go_simp); have x1 : (w2.alloc (.cells #[.slice (some ⟨g, 0, none⟩) n n, .int .i64 m, .int .i64 s] 24)).cell? ⟨w2.heap.size, 1, none⟩ = some (.int .i64 m) := (by go_simp); have x2 : (w2.alloc (.cells #[.slice (some ⟨g, 0, none⟩) n n, .int .i64 m, .int .i64 s] 24)).cell? ⟨w2.heap.size, 2, none⟩ = some (.int .i64 s) := (by go_simp); have SX := Lib.hid (hsx.below (below_new w2 (.cells #[.slice (some ⟨g, 0, none⟩) n n, .int .i64 m, .int .i64 s] 24))); clear hx hsx tok21 _t) | (go_at_call 21; refine (invert_ok _ n n m s (invL l) _ SX.out (by rw [invL_len]; exact HN.out) WI.out (HL.out.below HB.out) (by omega) EI.out).mono ?_; rintro e w3 ⟨g2, rfl, hsy, hx⟩; replace HB := Lib.hid (below_on HB.out hx); replace c0 := cell_on hx c0; replace c1 := cell_on hx c1; replace c2 := cell_on hx c2; replace x0 := cell_on hx x0; replace x1 := cell_on hx x1; replace x2 := cell_on hx x2; replace HB := Lib.hid (below_on HB.out (below_new w3 (.cells #[.slice (some ⟨g2, 0, none⟩) n n, .int .i64 m, .int .i64 s] 24))); replace c0 := cell_on (below_new w3 (.cells #[.slice (some ⟨g2, 0, none⟩) n n, .int .i64 m, .int .i64 s] 24)) c0; replace c1 := cell_on (below_new w3 (.cells #[.slice (some ⟨g2, 0, none⟩) n n, .int .i64 m, .int .i64 s] 24)) c1; replace c2 := cell_on (below_new w3 (.cells #[.slice (some ⟨g2, 0, none⟩) n n, .int .i64 m, .int .i64 s] 24)) c2; replace x0 := cell_on (below_new w3 (.cells #[.slice (some ⟨g2, 0, none⟩) n n, .int .i64 m, .int .i64 s] 24)) x0; replace x1 := cell_on (below_new w3 (.cells #[.slice (some ⟨g2, 0, none⟩) n n, .int .i64 m, .int .i64 s] 24)) x1; replace x2 := cell_on (below_new w3 (.cells #[.slice (some ⟨g2, 0, none⟩) n n, .int .i64 m, .int .i64 s] 24)) x2; have y0 : (w3.alloc (.cells #[.slice (some ⟨g2, 0, none⟩) n n, .int .i64 m, .int .i64 s] 24)).cell? ⟨w3.heap.size, 0, none⟩ = some (.slice (some ⟨g2, 0, none⟩) n n) := (by go_simp); have y1 : (w3.alloc (.cells #[.slice (some ⟨g2, 0, none⟩) n n, .int .i64 m, .int .i64 s] 24)).cell? ⟨w3.heap.size, 1, none⟩ = some (.int .i64 m) := (by go_simp); have y2 : (w3.alloc (.cells #[.slice (some ⟨g2, 0, none⟩) n n, .int .i64 m, .int .i64 s] 24)).cell? ⟨w3.heap.size, 2, none⟩ = some (.int .i64 s) := (by go_simp); replace SX := Lib.hid (SX.out.below (below_on hx (below_new w3 (.cells #[.slice (some ⟨g2, 0, none⟩) n n, .int .i64 m, .int .i64 s] 24)))); have SY := Lib.hid (hsy.below (below_new w3 (.cells #[.slice (some ⟨g2, 0, none⟩) n n, .int .i64 m, .int .i64 s] 24))); clear hx hsy) | (go_at_call 16; refine (valid_img _ n n m s (invL l) _ SX.out (by rw [invL_len]; exact HN.out) WI.out (HL.out.below HB.out) (by omega)).mono ?_; rintro e w4 ⟨rfl, hx⟩; rw [EIB.out]; replace HB := Lib.hid (below_on HB.out hx); replace c0 := cell_on hx c0; replace c1 := cell_on hx c1; replace c2 := cell_on hx c2; replace x0 := cell_on hx x0; replace x1 := cell_on hx x1; replace x2 := cell_on hx x2; replace y0 := cell_on hx y0; replace y1 := cell_on hx y1; replace y2 := cell_on hx y2; replace SY := Lib.hid (SY.out.below hx); clear hx) | (go_at_call 22; refine (same_any _ _ n n n cap m s m s _ _ _ SY.out (by rw [invL_len, invL_len]; exact HN.out) (HS.out.below HB.out) HN.out (by omega)).mono ?_; rintro e w5 ⟨rfl, hx⟩; rw [HSM.out]; replace HB := Lib.hid (below_on HB.out hx); replace c0 := cell_on hx c0; replace c1 := cell_on hx c1; replace c2 := cell_on hx c2; clear hx))
  go_ret
  exact ⟨rfl, HB.out⟩

set_option maxRecDepth 100000 in
theorem lifted (os : Os) (started : os.Started) (H : Type) (enc : TypeId × Value → H) :
    ReturnsInHanded {} Tryd.checked os 6 .any (fun w args => (Rows.imageTwiceSpec.pre enc Tryd.prog Tryd.f6 [] false w args ∧ laidMetH Tryd.prog laidL w) ∧ sizedMet enc Tryd.prog Tryd.f6 (OpenSpec.ofChange Rows.imageTwiceSpec) false w args)
      (Rows.imageTwiceSpec.post enc Tryd.prog Tryd.f6 false true false false) := by
  refine returnsInHanded_of_change_and (C := Tryd.checked) (X := fun w _ => laidMetH Tryd.prog laidL w) (fun _ _ _ hh h => h.of_heap hh) own started (by kernel_rfl) Tryd.func6
    (ChangeSpec.witness_shaped (enc := enc) (C := Tryd.checked) (os := os) (X := fun w _ => laidMetH Tryd.prog laidL w) false (World.doorLaid Tryd.prog 400 os) #[.agg #[.slice none 0 0, .int .i64 0, .int .i64 0]] 8 rfl (World.shaped_of_RefB (by kernel_rfl) (by kernel_rfl)) (by kernel_rfl) (by kernel_rfl) (by kernel_rfl) (door_met os _)) ?_
  intro W base args ds gs before hval0 hW _ _ hLm _
  have hL := of_laid hLm
  have hval : ∀ (j : Nat) t v, Tryd.f6.params[j]? = some t → args[j]? = some v → Value.okWide Tryd.prog W .any base t v := hval0
  have hW' := hW
  obtain ⟨p, q, hA0, hV, rfl, hfz, hnd⟩ := hW
  have hA : DataW.TrodAll enc Tryd.prog W 0 (fun _ => true) true Tryd.f6.params.toList args.toList ds p := hA0
  rw [Tryd.params6] at hA hval
  obtain ⟨v0, vs0, d0, ds0, p0, q0, hargs, rfl, rfl, h0, r0⟩ := trodAll_cons hA
  obtain ⟨rfl, rfl, rfl⟩ := trodAll_nil r0
  obtain rfl : args = #[v0] := by cases args; simp_all
  obtain ⟨rfl, rfl⟩ := trodVars_none hV
  have k0 := h0
  have lt0 : ∀ x ∈ p0, x.block < W.heap.size := by obtain ⟨m, hm⟩ := k0; exact DataW.trod_lt m _ _ _ hm
  obtain ⟨a, n, cap, m, s, l, rfl, hn, hb, hS, hw⟩ := open_image (hval 0 24 v0 rfl rfl) h0
  clear hA0 hval0
  refine (walk a n cap m s l W hn hb hS hw hL).mono fun e W' ⟨he, bel⟩ => ?_
  subst he
  exact ⟨_, rfl, _, _, _, [], _, [], hW', trodAll_mk1 (shut_bool Tryd.underlying4 _), (trodAll_cons_mk (Below.trod laidOut (by kernel_rfl) (of_decide_eq_true (by kernel_rfl)) k0 bel lt0) trodAll_mk0), rfl, bel.frame _, fun h => by cases h⟩

theorem over : Rows.imageTwiceRow.holds Tryd.pinned (OpenSpec.ofChange Rows.imageTwiceSpec) :=
  OpenClaim.holds_of_wide 6 Tryd.f6 rfl rfl rfl rfl rfl rfl rfl ⟨rfl, rfl, rfl, rfl, rfl⟩ rfl rfl rfl rfl rfl (by kernel_rfl) Tryd.func6 (by kernel_rfl)
    (of_decide_eq_true (by kernel_rfl)) (by unfold Func.isWrapper; first | (rw [if_pos (by decide +kernel)]; kernel_rfl) | (rw [if_neg (by decide +kernel)]; exact ⟨rfl, rfl⟩))
    (fun os started H enc _ => lifted os started H enc)

theorem proved : Rows.ImageTwiceCardSaid :=
  Claim7.holds_tied_plain_at .later [] [.data] true (true, "e81659936c82e3a671cfc7106131e0789ef7ada7cc59735c1fc83ffbcfb7ed7d") false
    over (fun _ h => by cases h) (by kernel_rfl) (fun _ h => by cases h) imageTwice_row_tie rfl ⟨rfl, rfl⟩ (by kernel_rfl) rfl
    (fun f fn hf hfn => by
      obtain rfl : f = 6 := Option.some.inj ((show Tryd.prog.funcNamed "backstep/backsteplaw23.ImageTwice" = some 6 by kernel_rfl).symm.trans hf) |>.symm
      obtain rfl : fn = Tryd.f6 := (Option.some.inj (Tryd.func6.symm.trans hfn)).symm
      exact ⟨by kernel_rfl, fun j t ht => by
        rw [Tryd.params6] at ht
        have hm : t ∈ [24] := by simpa using Array.mem_of_getElem? ht
        have hall : ([24].all fun u => !Tryd.prog.wantsStandIn u) = true := by kernel_rfl
        exact (show Tryd.prog.wantsStandIn t = false by simpa using List.all_eq_true.1 hall t hm)⟩)
    (by kernel_rfl)
#print axioms proved
end Go.Proofs.YtalkhkhnpplofaaDoor.imageTwice
