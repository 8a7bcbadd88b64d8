/- The tied card of ImageJoin: it answers true for every two images, where the table of instructions holds what the program's text lays in it. -/
import Derived.Test.YtalkhkhnpplofaaDoorRows
import Derived.Test.YtalkhkhnpplofaaDoorCards
import Derived.Test.YtalkhkhnpplofaaDoorTie
import Derived.LaidMore
import Derived.Stop.Joined
import Derived.SevenTiedAt
import Derived.WalkKit
import Derived.ProofKit
import Derived.OpenShut
import Derived.ShutString
import Derived.ChangeOld
import Derived.Below
import Derived.Test.YtalkhkhnpplofaaDoorArg
import Derived.Lib.Hide
import Derived.Deep.RegionHeld3
import Derived.Deep.QuietTactic
import Derived.BigQuiet
import Derived.WalkSmall
import Derived.Outline
import Derived.IntWalk
import Derived.StillTailTactics
import Derived.Handy
import Derived.Deep.Cut
import Derived.Deep.OwnRows
import Derived.Deep.RegionWith
import Derived.WalkLawsBesides
import Derived.WalkSpells
import Derived.Test.YtalkhkhnpplofaaDoorMk
import Derived.Test.YtalkhkhnpplofaaDoorMir2
import Derived.Test.YtalkhkhnpplofaaDoorSame
import Derived.Test.YtalkhkhnpplofaaDoorInvOk
import Derived.Deep.DeepCutAuto
namespace Go.Proofs.YtalkhkhnpplofaaDoor.imageJoin
open Go.ChangeShapes Go.WideShapes Go.ChangeAt Go.RowKit
open Go.ChangeMaps (open_string shut_string)
set_option linter.unusedSimpArgs false
set_option linter.unusedVariables false

theorem own : ownKnob Tryd.prog.godebug = none := by kernel_rfl
theorem laidOut : laidOutB Tryd.prog = true := by kernel_rfl

/-- what the listed variables hold when the call begins -/
abbrev laidL {H : Type} : List (String × DataW H) := [("backstep/isa.table", Rows.laid_backstep_isa_table)]
theorem gno0 : Tryd.prog.globalNamed "backstep/isa.table" = some 0 := by kernel_rfl
theorem gty0 : (Tryd.prog.globals[0]?).map (·.type) = some 80 := by kernel_rfl
theorem door_met (os : Os) (args : Array Value) : laidMetH Tryd.prog laidL ((World.doorLaid Tryd.prog 400 os).forCall (fun _ _ => 0) ⟨#[], args, []⟩).memory :=
  laidMetH_of_parts3 (fuel := 8) (laidMet_of_run' 8 (by kernel_rfl) (by kernel_rfl)) (by kernel_rfl) (by kernel_rfl)
theorem onJ {w w1 w2 : World} {n n2 : Nat} {a a2 : Option Addr} {cap cap2 : Nat} {m s : Int} (hg : Below w1.heap.size w1 w2) (h : (fun w' => w'.cell? ⟨w.heap.size, 0, none⟩ = some (.slice a n cap) ∧ w'.cell? ⟨w.heap.size, 1, none⟩ = some (.int .i64 m) ∧ w'.cell? ⟨w.heap.size, 2, none⟩ = some (.int .i64 s) ∧ w'.cell? ⟨w.heap.size + 1, 0, none⟩ = some (.slice a2 n2 cap2) ∧ Below w.heap.size w w') w1) : (fun w' => w'.cell? ⟨w.heap.size, 0, none⟩ = some (.slice a n cap) ∧ w'.cell? ⟨w.heap.size, 1, none⟩ = some (.int .i64 m) ∧ w'.cell? ⟨w.heap.size, 2, none⟩ = some (.int .i64 s) ∧ w'.cell? ⟨w.heap.size + 1, 0, none⟩ = some (.slice a2 n2 cap2) ∧ Below w.heap.size w w') w2 := by
  obtain ⟨h0, h1, h2, h3, hB⟩ := h
  exact ⟨cell_on hg h0, cell_on hg h1, cell_on hg h2, cell_on hg h3, below_on hB hg⟩
theorem onJ_B {w w1 : World} {n n2 : Nat} {a a2 : Option Addr} {cap cap2 : Nat} {m s : Int} (h : (fun w' => w'.cell? ⟨w.heap.size, 0, none⟩ = some (.slice a n cap) ∧ w'.cell? ⟨w.heap.size, 1, none⟩ = some (.int .i64 m) ∧ w'.cell? ⟨w.heap.size, 2, none⟩ = some (.int .i64 s) ∧ w'.cell? ⟨w.heap.size + 1, 0, none⟩ = some (.slice a2 n2 cap2) ∧ Below w.heap.size w w') w1) : Below w.heap.size w w1 := h.2.2.2.2
theorem onK {w w1 w2 : World} {n n2 pb qb gp gq : Nat} {a2 : Option Addr} {cap2 : Nat} {m s : Int} {l : List Ins} (hg : Below w1.heap.size w1 w2) (h : (fun w' => w'.cell? ⟨w.heap.size, 1, none⟩ = some (.int .i64 m) ∧ w'.cell? ⟨w.heap.size, 2, none⟩ = some (.int .i64 s) ∧ w'.cell? ⟨w.heap.size + 1, 0, none⟩ = some (.slice a2 n2 cap2) ∧ w'.cell? ⟨pb, 0, none⟩ = some (.slice (some ⟨gp, 0, none⟩) n n) ∧ w'.cell? ⟨qb, 0, none⟩ = some (.slice (some ⟨gq, 0, none⟩) n2 n2) ∧ SliceC w' (some ⟨gp, 0, none⟩) (invL l) ∧ Below w.heap.size w w') w1) : (fun w' => w'.cell? ⟨w.heap.size, 1, none⟩ = some (.int .i64 m) ∧ w'.cell? ⟨w.heap.size, 2, none⟩ = some (.int .i64 s) ∧ w'.cell? ⟨w.heap.size + 1, 0, none⟩ = some (.slice a2 n2 cap2) ∧ w'.cell? ⟨pb, 0, none⟩ = some (.slice (some ⟨gp, 0, none⟩) n n) ∧ w'.cell? ⟨qb, 0, none⟩ = some (.slice (some ⟨gq, 0, none⟩) n2 n2) ∧ SliceC w' (some ⟨gp, 0, none⟩) (invL l) ∧ Below w.heap.size w w') w2 := by
  obtain ⟨h1, h2, h3, h4, h5, hS, hB⟩ := h
  exact ⟨cell_on hg h1, cell_on hg h2, cell_on hg h3, cell_on hg h4, cell_on hg h5, hS.below hg, below_on hB hg⟩
theorem onK_B {w w1 : World} {n n2 pb qb gp gq : Nat} {a2 : Option Addr} {cap2 : Nat} {m s : Int} {l : List Ins} (h : (fun w' => w'.cell? ⟨w.heap.size, 1, none⟩ = some (.int .i64 m) ∧ w'.cell? ⟨w.heap.size, 2, none⟩ = some (.int .i64 s) ∧ w'.cell? ⟨w.heap.size + 1, 0, none⟩ = some (.slice a2 n2 cap2) ∧ w'.cell? ⟨pb, 0, none⟩ = some (.slice (some ⟨gp, 0, none⟩) n n) ∧ w'.cell? ⟨qb, 0, none⟩ = some (.slice (some ⟨gq, 0, none⟩) n2 n2) ∧ SliceC w' (some ⟨gp, 0, none⟩) (invL l) ∧ Below w.heap.size w w') w1) : Below w.heap.size w w1 := h.2.2.2.2.2.2
theorem onK_S {w w1 : World} {n n2 pb qb gp gq : Nat} {a2 : Option Addr} {cap2 : Nat} {m s : Int} {l : List Ins} (h : (fun w' => w'.cell? ⟨w.heap.size, 1, none⟩ = some (.int .i64 m) ∧ w'.cell? ⟨w.heap.size, 2, none⟩ = some (.int .i64 s) ∧ w'.cell? ⟨w.heap.size + 1, 0, none⟩ = some (.slice a2 n2 cap2) ∧ w'.cell? ⟨pb, 0, none⟩ = some (.slice (some ⟨gp, 0, none⟩) n n) ∧ w'.cell? ⟨qb, 0, none⟩ = some (.slice (some ⟨gq, 0, none⟩) n2 n2) ∧ SliceC w' (some ⟨gp, 0, none⟩) (invL l) ∧ Below w.heap.size w w') w1) : SliceC w1 (some ⟨gp, 0, none⟩) (invL l) := h.2.2.2.2.2.1

def Laid (W : World) : Prop := Go.Proofs.YtalkhkhnpplofaaDoor.Laid W
theorem of_laid {W : World} (h : laidMetH Tryd.prog laidL W) : Laid W := by
  rw [MakeChecks.laidMetH_plain _ _ _ (by kernel_rfl)] at h
  obtain ⟨ps, ⟨g0, t0, cs0, f0, p0, q0, hg0, ht0, hv0, hd0, _, _⟩, _, _⟩ := h
  obtain rfl := Option.some.inj (gno0.symm.trans hg0)
  obtain rfl := Option.some.inj (gty0.symm.trans ht0)
  intro n hn
  have hd : DataW.trod (fun _ : TypeId × Value => ()) Tryd.prog W 0 (fun _ => true) false f0 80 cs0.toList = some (Rows.laid_backstep_isa_table, p0) := hd0
  have hr := pair_at Tryd.underlying80 Tryd.underlying65 (by kernel_rfl) (by kernel_rfl) Tryd.underlying9 ⟨rfl, rfl⟩ ⟨rfl, rfl⟩ hd n _ _ (table_at n hn)
  rw [Array.getElem?_toList, Array.getElem?_toList] at hr
  exact ⟨(World.var?_cell hg0 hv0 (n * 2)).trans hr.1, (World.var?_cell hg0 hv0 (n * 2 + 1)).trans hr.2⟩

set_option maxRecDepth 100000 in
set_option maxHeartbeats 8000000 in
theorem walk (a : Option Addr) (n cap : Nat) (m s : Int) (l : List Ins) (a2 : Option Addr) (n2 cap2 : Nat) (m2 s2 : Int) (l2 : List Ins) (w : World) (hn : l.length = n) (hb : n ≤ maxLen) (hS : SliceC w a l) (hw : WF l) (hn2 : l2.length = n2) (hb2 : n2 ≤ maxLen) (hS2 : SliceC w a2 l2) (hw2 : WF l2) (hL : Laid w) :
    Calls Tryd.prog 8 #[.agg #[.slice a n cap, .int .i64 m, .int .i64 s], .agg #[.slice a2 n2 cap2, .int .i64 m2, .int .i64 s2]] w fun e w' => e = .returned (.bool true) ∧ Below w.heap.size w w' := by
  have HS := Lib.hid hS
  have HS2 := Lib.hid hS2
  have HL := Lib.hid hL
  have HN := Lib.hid hn
  have HN2 := Lib.hid hn2
  have HB : Hid (Below w.heap.size w ((w.alloc (.cells #[.slice a n cap, .int .i64 m, .int .i64 s] 24)).alloc (.cells #[.slice a2 n2 cap2, .int .i64 m2, .int .i64 s2] 24))) := Lib.hid (((Below.refl _ _).alloc (Nat.le_refl _) _).alloc (by simp) _)
  have c0 : ((w.alloc (.cells #[.slice a n cap, .int .i64 m, .int .i64 s] 24)).alloc (.cells #[.slice a2 n2 cap2, .int .i64 m2, .int .i64 s2] 24)).cell? ⟨w.heap.size, 0, none⟩ = some (.slice a n cap) := by go_simp
  have c1 : ((w.alloc (.cells #[.slice a n cap, .int .i64 m, .int .i64 s] 24)).alloc (.cells #[.slice a2 n2 cap2, .int .i64 m2, .int .i64 s2] 24)).cell? ⟨w.heap.size, 1, none⟩ = some (.int .i64 m) := by go_simp
  have c2 : ((w.alloc (.cells #[.slice a n cap, .int .i64 m, .int .i64 s] 24)).alloc (.cells #[.slice a2 n2 cap2, .int .i64 m2, .int .i64 s2] 24)).cell? ⟨w.heap.size, 2, none⟩ = some (.int .i64 s) := by go_simp
  have f0 : ((w.alloc (.cells #[.slice a n cap, .int .i64 m, .int .i64 s] 24)).alloc (.cells #[.slice a2 n2 cap2, .int .i64 m2, .int .i64 s2] 24)).cell? ⟨w.heap.size + 1, 0, none⟩ = some (.slice a2 n2 cap2) := by go_simp
  have f1 : ((w.alloc (.cells #[.slice a n cap, .int .i64 m, .int .i64 s] 24)).alloc (.cells #[.slice a2 n2 cap2, .int .i64 m2, .int .i64 s2] 24)).cell? ⟨w.heap.size + 1, 1, none⟩ = some (.int .i64 m2) := by go_simp
  have f2 : ((w.alloc (.cells #[.slice a n cap, .int .i64 m, .int .i64 s] 24)).alloc (.cells #[.slice a2 n2 cap2, .int .i64 m2, .int .i64 s2] 24)).cell? ⟨w.heap.size + 1, 2, none⟩ = some (.int .i64 s2) := by go_simp
  unfold maxLen at hb hb2
  clear hS hS2 hL hn hn2
  have tokA : True := trivial
  by_cases h1 : (40 : Int) < (n : Int)
  · have H1 := decide_eq_true h1
    go_enter Tryd.func8, Tryd.ntmps8
    go_wp2_with (first | (go_at_call 12; refine (awake_any _ (HL.out.below HB.out)).mono ?_; rintro e w1 ⟨rfl, hx⟩; replace HB := Lib.hid (below_on HB.out hx); replace c0 := cell_on hx c0; replace c1 := cell_on hx c1; replace c2 := cell_on hx c2; replace f0 := cell_on hx f0; replace f1 := cell_on hx f1; replace f2 := cell_on hx f2; clear hx))
    go_ret
    exact ⟨rfl, HB.out⟩
  have H1 := decide_eq_false h1
  by_cases h2 : (40 : Int) < (n2 : Int)
  · have H2 := decide_eq_true h2
    go_enter Tryd.func8, Tryd.ntmps8
    go_wp2_with (first | (go_at_call 12; refine (awake_any _ (HL.out.below HB.out)).mono ?_; rintro e w1 ⟨rfl, hx⟩; replace HB := Lib.hid (below_on HB.out hx); replace c0 := cell_on hx c0; replace c1 := cell_on hx c1; replace c2 := cell_on hx c2; replace f0 := cell_on hx f0; replace f1 := cell_on hx f1; replace f2 := cell_on hx f2; clear hx))
    go_ret
    exact ⟨rfl, HB.out⟩
  have H2 := decide_eq_false h2
  by_cases h3 : ckE l m s = 0
  case neg =>
    have HVA := Lib.hid (show (ckE l m s == 0) = false by simpa using h3)
    clear h3
    go_enter Tryd.func8, Tryd.ntmps8
    go_wp2_with (first | (go_at_call 12; refine (awake_any _ (HL.out.below HB.out)).mono ?_; rintro e w1 ⟨rfl, hx⟩; replace HB := Lib.hid (below_on HB.out hx); replace c0 := cell_on hx c0; replace c1 := cell_on hx c1; replace c2 := cell_on hx c2; replace f0 := cell_on hx f0; replace f1 := cell_on hx f1; replace f2 := cell_on hx f2; clear hx) | (go_at_call 16; have _t := tokA; refine (valid_img _ n cap m s l _ (HS.out.below HB.out) HN.out hw (HL.out.below HB.out) (by omega)).mono ?_; rintro e w1 ⟨rfl, hx⟩; rw [HVA.out]; replace HB := Lib.hid (below_on HB.out hx); replace c0 := cell_on hx c0; replace c1 := cell_on hx c1; replace c2 := cell_on hx c2; replace f0 := cell_on hx f0; replace f1 := cell_on hx f1; replace f2 := cell_on hx f2; clear hx tokA _t))
    go_ret
    exact ⟨rfl, HB.out⟩
  have HVA := Lib.hid (show (ckE l m s == 0) = true by simpa using h3)
  by_cases h4 : ckE l2 m2 s2 = 0
  case neg =>
    have HVB := Lib.hid (show (ckE l2 m2 s2 == 0) = false by simpa using h4)
    clear h3 h4
    go_enter Tryd.func8, Tryd.ntmps8
    go_wp2_with (first | (go_at_call 12; refine (awake_any _ (HL.out.below HB.out)).mono ?_; rintro e w1 ⟨rfl, hx⟩; replace HB := Lib.hid (below_on HB.out hx); replace c0 := cell_on hx c0; replace c1 := cell_on hx c1; replace c2 := cell_on hx c2; replace f0 := cell_on hx f0; replace f1 := cell_on hx f1; replace f2 := cell_on hx f2; clear hx) | (go_at_call 16; have _t := tokA; refine (valid_img _ n cap m s l _ (HS.out.below HB.out) HN.out hw (HL.out.below HB.out) (by omega)).mono ?_; rintro e w1 ⟨rfl, hx⟩; rw [HVA.out]; replace HB := Lib.hid (below_on HB.out hx); replace c0 := cell_on hx c0; replace c1 := cell_on hx c1; replace c2 := cell_on hx c2; replace f0 := cell_on hx f0; replace f1 := cell_on hx f1; replace f2 := cell_on hx f2; clear hx tokA _t) | (go_at_call 16; refine (valid_img _ n2 cap2 m2 s2 l2 _ (HS2.out.below HB.out) HN2.out hw2 (HL.out.below HB.out) (by omega)).mono ?_; rintro e w1 ⟨rfl, hx⟩; rw [HVB.out]; replace HB := Lib.hid (below_on HB.out hx); replace c0 := cell_on hx c0; replace c1 := cell_on hx c1; replace c2 := cell_on hx c2; replace f0 := cell_on hx f0; replace f1 := cell_on hx f1; replace f2 := cell_on hx f2; clear hx))
    go_ret
    exact ⟨rfl, HB.out⟩
  have HVB := Lib.hid (show (ckE l2 m2 s2 == 0) = true by simpa using h4)
  have HE1 := Lib.hid h3
  have HE2 := Lib.hid h4
  have HR1 := Lib.hid (wd_ck.1 h3).1
  have HW1 := Lib.hid (wd_ck.1 h3).2
  have HW2 := Lib.hid (wd_ck.1 h4).2
  have hln : l.length + l2.length ≤ 65536 := by have := HN.out; have := HN2.out; omega
  have HWJ := Lib.hid (HW1.out.join HW2.out hln)
  have HEJ := Lib.hid (show ckE (J l l2) m s = 0 from wd_ck.2 ⟨HR1.out, HWJ.out⟩)
  have HNJ := Lib.hid (show (J l l2).length = n + n2 by rw [J_len, HN.out, HN2.out])
  have WJ := Lib.hid (J_wf hw hw2)
  have HIJ := Lib.hid (J_inv HW1.out HW2.out hln)
  clear h3 h4 hln
  go_enter Tryd.func8, Tryd.ntmps8
  go_upto_region 5 with (first | (go_at_call 12; refine (awake_any _ (HL.out.below HB.out)).mono ?_; rintro e w1 ⟨rfl, hx⟩; replace HB := Lib.hid (below_on HB.out hx); replace c0 := cell_on hx c0; replace c1 := cell_on hx c1; replace c2 := cell_on hx c2; replace f0 := cell_on hx f0; replace f1 := cell_on hx f1; replace f2 := cell_on hx f2; clear hx) | (go_at_call 16; have _t := tokA; refine (valid_img _ n cap m s l _ (HS.out.below HB.out) HN.out hw (HL.out.below HB.out) (by omega)).mono ?_; rintro e w1 ⟨rfl, hx⟩; rw [HVA.out]; replace HB := Lib.hid (below_on HB.out hx); replace c0 := cell_on hx c0; replace c1 := cell_on hx c1; replace c2 := cell_on hx c2; replace f0 := cell_on hx f0; replace f1 := cell_on hx f1; replace f2 := cell_on hx f2; clear hx tokA _t) | (go_at_call 16; refine (valid_img _ n2 cap2 m2 s2 l2 _ (HS2.out.below HB.out) HN2.out hw2 (HL.out.below HB.out) (by omega)).mono ?_; rintro e w1 ⟨rfl, hx⟩; rw [HVB.out]; replace HB := Lib.hid (below_on HB.out hx); replace c0 := cell_on hx c0; replace c1 := cell_on hx c1; replace c2 := cell_on hx c2; replace f0 := cell_on hx f0; replace f1 := cell_on hx f1; replace f2 := cell_on hx f2; clear hx))
  have HB0 := HB
  have HM0 : (fun w' => w'.cell? ⟨w.heap.size, 0, none⟩ = some (.slice a n cap) ∧ w'.cell? ⟨w.heap.size, 1, none⟩ = some (.int .i64 m) ∧ w'.cell? ⟨w.heap.size, 2, none⟩ = some (.int .i64 s) ∧ w'.cell? ⟨w.heap.size + 1, 0, none⟩ = some (.slice a2 n2 cap2) ∧ Below w.heap.size w w') w1 := ⟨c0, c1, c2, f0, HB.out⟩
  have HMS := onJ (below_drewN (n := 1) (Below.refl _ _)) HM0
  have HST := Lib.hid (St5.start w1 n l (sh l2 n))
  go_cut [5] (fun s5 wx => ∃ (q : Nat) (aa : Option Addr) (cc : Nat), s5 = .pointer (some ⟨q, 0, none⟩) ∧ Hid (CJ w1 (n + n2) (l ++ (sh l2 n)) m s q aa cc wx))
  case first =>
    clear c0 c1 c2 f0 f1 f2 HB0
    go_region_held3 (fun w' => w'.cell? ⟨w.heap.size, 0, none⟩ = some (.slice a n cap) ∧ w'.cell? ⟨w.heap.size, 1, none⟩ = some (.int .i64 m) ∧ w'.cell? ⟨w.heap.size, 2, none⟩ = some (.int .i64 s) ∧ w'.cell? ⟨w.heap.size + 1, 0, none⟩ = some (.slice a2 n2 cap2) ∧ Below w.heap.size w w') (first | exact HMS | exact HX | assumption | (exact onJ (below_new _ _) (by assumption)) | (exact onJ (((HFIN.out.bel.setCell hz1 _).setCell hz1 _).setCell hz1 _) HM0))
      (first | (go_at_call 27; refine (shifted_any _ n2 cap2 n l2 _ (HS2.out.below (onJ_B (by assumption))) HN2.out hw2 (HL.out.below (onJ_B (by assumption))) (by omega) HW2.out (by omega) (by omega)).mono ?_; rintro e wS ⟨ab, cb, rfl, hob, hg⟩; have HST := Lib.hid (St5.call (by first | (have hq := HST.out; (try simp only [sz_alloc, sz_drew] at hq); exact hq) | (have hq := HST.out.drew; (try simp only [sz_alloc, sz_drew] at hq); exact hq) | (have hq := HST.out.E; (try simp only [sz_alloc, sz_drew] at hq); exact hq) | (have hq := HST.out.E.drew; (try simp only [sz_alloc, sz_drew] at hq); exact hq) | (have hq := HST.out.B; (try simp only [sz_alloc, sz_drew] at hq); exact hq) | (have hq := HST.out.B.drew; (try simp only [sz_alloc, sz_drew] at hq); exact hq) | (have hq := HST.out.E.B; (try simp only [sz_alloc, sz_drew] at hq); exact hq) | (have hq := HST.out.E.B.drew; (try simp only [sz_alloc, sz_drew] at hq); exact hq) | (have hq := HST.out.B.E; (try simp only [sz_alloc, sz_drew] at hq); exact hq) | (have hq := HST.out.B.E.drew; (try simp only [sz_alloc, sz_drew] at hq); exact hq) | (have hq := HST.out.drew; (try simp only [sz_alloc, sz_drew] at hq); exact hq) | (have hq := HST.out.drew.E; (try simp only [sz_alloc, sz_drew] at hq); exact hq) | (have hq := HST.out.drew.E.drew; (try simp only [sz_alloc, sz_drew] at hq); exact hq) | (have hq := HST.out.drew.B; (try simp only [sz_alloc, sz_drew] at hq); exact hq) | (have hq := HST.out.drew.B.drew; (try simp only [sz_alloc, sz_drew] at hq); exact hq) | (have hq := HST.out.drew.E.B; (try simp only [sz_alloc, sz_drew] at hq); exact hq) | (have hq := HST.out.drew.E.B.drew; (try simp only [sz_alloc, sz_drew] at hq); exact hq) | (have hq := HST.out.drew.B.E; (try simp only [sz_alloc, sz_drew] at hq); exact hq) | (have hq := HST.out.drew.B.E.drew; (try simp only [sz_alloc, sz_drew] at hq); exact hq)) hg hob); have HX := onJ hg (by assumption); clear hob) | (refine step_A1 rfl (.tmp 35) (.tmp 37) (by rfl) _ (by rfl) a cap (by rfl) (by first | (have hq := HST.out; (try simp only [sz_alloc, sz_drew] at hq); exact hq) | (have hq := HST.out.drew; (try simp only [sz_alloc, sz_drew] at hq); exact hq) | (have hq := HST.out.E; (try simp only [sz_alloc, sz_drew] at hq); exact hq) | (have hq := HST.out.E.drew; (try simp only [sz_alloc, sz_drew] at hq); exact hq) | (have hq := HST.out.B; (try simp only [sz_alloc, sz_drew] at hq); exact hq) | (have hq := HST.out.B.drew; (try simp only [sz_alloc, sz_drew] at hq); exact hq) | (have hq := HST.out.E.B; (try simp only [sz_alloc, sz_drew] at hq); exact hq) | (have hq := HST.out.E.B.drew; (try simp only [sz_alloc, sz_drew] at hq); exact hq) | (have hq := HST.out.B.E; (try simp only [sz_alloc, sz_drew] at hq); exact hq) | (have hq := HST.out.B.E.drew; (try simp only [sz_alloc, sz_drew] at hq); exact hq) | (have hq := HST.out.drew; (try simp only [sz_alloc, sz_drew] at hq); exact hq) | (have hq := HST.out.drew.E; (try simp only [sz_alloc, sz_drew] at hq); exact hq) | (have hq := HST.out.drew.E.drew; (try simp only [sz_alloc, sz_drew] at hq); exact hq) | (have hq := HST.out.drew.B; (try simp only [sz_alloc, sz_drew] at hq); exact hq) | (have hq := HST.out.drew.B.drew; (try simp only [sz_alloc, sz_drew] at hq); exact hq) | (have hq := HST.out.drew.E.B; (try simp only [sz_alloc, sz_drew] at hq); exact hq) | (have hq := HST.out.drew.E.B.drew; (try simp only [sz_alloc, sz_drew] at hq); exact hq) | (have hq := HST.out.drew.B.E; (try simp only [sz_alloc, sz_drew] at hq); exact hq) | (have hq := HST.out.drew.B.E.drew; (try simp only [sz_alloc, sz_drew] at hq); exact hq)) HN.out (HS.out.below HB.out) (by omega) ?_; intro aa cc w' hst; have HX := onJ hst.bel HM0; have HST := Lib.hid hst; clear hst) | (refine step_A2 rfl (.tmp 38) (.tmp 44) (by rfl) _ _ (by rfl) _ _ n2 (by rfl) (by first | (have hq := HST.out; (try simp only [sz_alloc, sz_drew] at hq); exact hq) | (have hq := HST.out.drew; (try simp only [sz_alloc, sz_drew] at hq); exact hq) | (have hq := HST.out.E; (try simp only [sz_alloc, sz_drew] at hq); exact hq) | (have hq := HST.out.E.drew; (try simp only [sz_alloc, sz_drew] at hq); exact hq) | (have hq := HST.out.B; (try simp only [sz_alloc, sz_drew] at hq); exact hq) | (have hq := HST.out.B.drew; (try simp only [sz_alloc, sz_drew] at hq); exact hq) | (have hq := HST.out.E.B; (try simp only [sz_alloc, sz_drew] at hq); exact hq) | (have hq := HST.out.E.B.drew; (try simp only [sz_alloc, sz_drew] at hq); exact hq) | (have hq := HST.out.B.E; (try simp only [sz_alloc, sz_drew] at hq); exact hq) | (have hq := HST.out.B.E.drew; (try simp only [sz_alloc, sz_drew] at hq); exact hq) | (have hq := HST.out.drew; (try simp only [sz_alloc, sz_drew] at hq); exact hq) | (have hq := HST.out.drew.E; (try simp only [sz_alloc, sz_drew] at hq); exact hq) | (have hq := HST.out.drew.E.drew; (try simp only [sz_alloc, sz_drew] at hq); exact hq) | (have hq := HST.out.drew.B; (try simp only [sz_alloc, sz_drew] at hq); exact hq) | (have hq := HST.out.drew.B.drew; (try simp only [sz_alloc, sz_drew] at hq); exact hq) | (have hq := HST.out.drew.E.B; (try simp only [sz_alloc, sz_drew] at hq); exact hq) | (have hq := HST.out.drew.E.B.drew; (try simp only [sz_alloc, sz_drew] at hq); exact hq) | (have hq := HST.out.drew.B.E; (try simp only [sz_alloc, sz_drew] at hq); exact hq) | (have hq := HST.out.drew.B.E.drew; (try simp only [sz_alloc, sz_drew] at hq); exact hq)) HN.out (by rw [sh_len]; exact HN2.out) (by omega) (by omega) ?_; intro a3 c3 w' hfin; have HX := onJ hfin.bel HM0; have HFIN := Lib.hid hfin; (try (obtain ⟨hz1, z0, z1, z2, z3, z4, z5, _⟩ := hfin.box _ rfl)); clear hfin))
    all_goals
      go_wp2_with fail
      go_meet
      exact ⟨_, _, _, rfl, Lib.hid (by first | exact HFIN.out.way1 | exact HFIN.out.way2)⟩
  case rest =>
    obtain ⟨xb, ax, cx, rfl, HCJ⟩ := hcut
    have hx := HCJ.out.bel
    replace HB := Lib.hid (below_on HB.out hx)
    replace c0 := cell_on hx c0
    replace c1 := cell_on hx c1
    replace c2 := cell_on hx c2
    replace f0 := cell_on hx f0
    replace f1 := cell_on hx f1
    replace f2 := cell_on hx f2
    obtain ⟨x0, x1, x2⟩ := HCJ.out.bx
    have SX := Lib.hid (show SliceC wc ax (J l l2) by unfold J; rw [HN.out]; exact HCJ.out.sl)
    have HVJ := Lib.hid (show (ckE (J l l2) m s == 0) = true by rw [HEJ.out]; rfl)
    have HSM := Lib.hid (show sameB m s m s (invL (J l l2)) (invL l2 ++ sh (invL l) n2) = true by rw [HIJ.out, HN2.out]; unfold sameB; simp)
    have HWI := Lib.hid (invL_wf hw)
    have HDI := Lib.hid (HW1.out.inv (by rw [HN.out]; omega))
    clear hx HCJ HM0 HMS HST HB0
    go_upto_region 7 with (go_at_call 21; go_loud (refine (invert_ok _ (n + n2) cx m s (J l l2) _ SX.out HNJ.out WJ.out (HL.out.below HB.out) (by omega) HEJ.out).mono ?_; rintro e w5 ⟨gy, rfl, hsn, hx⟩; replace HB := Lib.hid (below_on HB.out hx); replace c0 := cell_on hx c0; replace c1 := cell_on hx c1; replace c2 := cell_on hx c2; replace f0 := cell_on hx f0; replace f1 := cell_on hx f1; replace f2 := cell_on hx f2; replace x0 := cell_on hx x0; replace x1 := cell_on hx x1; replace x2 := cell_on hx x2; replace SX := Lib.hid (SX.out.below hx); replace HB := Lib.hid (below_on HB.out (below_new w5 (.cells #[.slice (some ⟨gy, 0, none⟩) (n + n2) (n + n2), .int .i64 m, .int .i64 s] 24))); replace c0 := cell_on (below_new w5 (.cells #[.slice (some ⟨gy, 0, none⟩) (n + n2) (n + n2), .int .i64 m, .int .i64 s] 24)) c0; replace c1 := cell_on (below_new w5 (.cells #[.slice (some ⟨gy, 0, none⟩) (n + n2) (n + n2), .int .i64 m, .int .i64 s] 24)) c1; replace c2 := cell_on (below_new w5 (.cells #[.slice (some ⟨gy, 0, none⟩) (n + n2) (n + n2), .int .i64 m, .int .i64 s] 24)) c2; replace f0 := cell_on (below_new w5 (.cells #[.slice (some ⟨gy, 0, none⟩) (n + n2) (n + n2), .int .i64 m, .int .i64 s] 24)) f0; replace f1 := cell_on (below_new w5 (.cells #[.slice (some ⟨gy, 0, none⟩) (n + n2) (n + n2), .int .i64 m, .int .i64 s] 24)) f1; replace f2 := cell_on (below_new w5 (.cells #[.slice (some ⟨gy, 0, none⟩) (n + n2) (n + n2), .int .i64 m, .int .i64 s] 24)) f2; replace x0 := cell_on (below_new w5 (.cells #[.slice (some ⟨gy, 0, none⟩) (n + n2) (n + n2), .int .i64 m, .int .i64 s] 24)) x0; replace x1 := cell_on (below_new w5 (.cells #[.slice (some ⟨gy, 0, none⟩) (n + n2) (n + n2), .int .i64 m, .int .i64 s] 24)) x1; replace x2 := cell_on (below_new w5 (.cells #[.slice (some ⟨gy, 0, none⟩) (n + n2) (n + n2), .int .i64 m, .int .i64 s] 24)) x2; replace SX := Lib.hid (SX.out.below (below_new w5 (.cells #[.slice (some ⟨gy, 0, none⟩) (n + n2) (n + n2), .int .i64 m, .int .i64 s] 24))); have y0 : (w5.alloc (.cells #[.slice (some ⟨gy, 0, none⟩) (n + n2) (n + n2), .int .i64 m, .int .i64 s] 24)).cell? ⟨w5.heap.size, 0, none⟩ = some (.slice (some ⟨gy, 0, none⟩) (n + n2) (n + n2)) := (by go_simp); have y1 : (w5.alloc (.cells #[.slice (some ⟨gy, 0, none⟩) (n + n2) (n + n2), .int .i64 m, .int .i64 s] 24)).cell? ⟨w5.heap.size, 1, none⟩ = some (.int .i64 m) := (by go_simp); have y2 : (w5.alloc (.cells #[.slice (some ⟨gy, 0, none⟩) (n + n2) (n + n2), .int .i64 m, .int .i64 s] 24)).cell? ⟨w5.heap.size, 2, none⟩ = some (.int .i64 s) := (by go_simp); have SY := Lib.hid (hsn.below (below_new w5 (.cells #[.slice (some ⟨gy, 0, none⟩) (n + n2) (n + n2), .int .i64 m, .int .i64 s] 24))); clear hx hsn))
    obtain ⟨yb, hyb⟩ : ∃ yb, yb = w5.heap.size := ⟨_, rfl⟩
    rw [← hyb] at y0 y1 y2
    rw [← hyb]
    clear hyb
    go_upto_region 8 with (go_at_call 21; go_loud (refine (invert_ok _ n cap m s l _ (HS.out.below HB.out) HN.out hw (HL.out.below HB.out) (by omega) HE1.out).mono ?_; rintro e w6 ⟨gp, rfl, hsn, hx⟩; replace HB := Lib.hid (below_on HB.out hx); replace c0 := cell_on hx c0; replace c1 := cell_on hx c1; replace c2 := cell_on hx c2; replace f0 := cell_on hx f0; replace f1 := cell_on hx f1; replace f2 := cell_on hx f2; replace x0 := cell_on hx x0; replace x1 := cell_on hx x1; replace x2 := cell_on hx x2; replace y0 := cell_on hx y0; replace y1 := cell_on hx y1; replace y2 := cell_on hx y2; replace SX := Lib.hid (SX.out.below hx); replace SY := Lib.hid (SY.out.below hx); replace HB := Lib.hid (below_on HB.out (below_new w6 (.cells #[.slice (some ⟨gp, 0, none⟩) n n, .int .i64 m, .int .i64 s] 24))); replace c0 := cell_on (below_new w6 (.cells #[.slice (some ⟨gp, 0, none⟩) n n, .int .i64 m, .int .i64 s] 24)) c0; replace c1 := cell_on (below_new w6 (.cells #[.slice (some ⟨gp, 0, none⟩) n n, .int .i64 m, .int .i64 s] 24)) c1; replace c2 := cell_on (below_new w6 (.cells #[.slice (some ⟨gp, 0, none⟩) n n, .int .i64 m, .int .i64 s] 24)) c2; replace f0 := cell_on (below_new w6 (.cells #[.slice (some ⟨gp, 0, none⟩) n n, .int .i64 m, .int .i64 s] 24)) f0; replace f1 := cell_on (below_new w6 (.cells #[.slice (some ⟨gp, 0, none⟩) n n, .int .i64 m, .int .i64 s] 24)) f1; replace f2 := cell_on (below_new w6 (.cells #[.slice (some ⟨gp, 0, none⟩) n n, .int .i64 m, .int .i64 s] 24)) f2; replace x0 := cell_on (below_new w6 (.cells #[.slice (some ⟨gp, 0, none⟩) n n, .int .i64 m, .int .i64 s] 24)) x0; replace x1 := cell_on (below_new w6 (.cells #[.slice (some ⟨gp, 0, none⟩) n n, .int .i64 m, .int .i64 s] 24)) x1; replace x2 := cell_on (below_new w6 (.cells #[.slice (some ⟨gp, 0, none⟩) n n, .int .i64 m, .int .i64 s] 24)) x2; replace y0 := cell_on (below_new w6 (.cells #[.slice (some ⟨gp, 0, none⟩) n n, .int .i64 m, .int .i64 s] 24)) y0; replace y1 := cell_on (below_new w6 (.cells #[.slice (some ⟨gp, 0, none⟩) n n, .int .i64 m, .int .i64 s] 24)) y1; replace y2 := cell_on (below_new w6 (.cells #[.slice (some ⟨gp, 0, none⟩) n n, .int .i64 m, .int .i64 s] 24)) y2; replace SX := Lib.hid (SX.out.below (below_new w6 (.cells #[.slice (some ⟨gp, 0, none⟩) n n, .int .i64 m, .int .i64 s] 24))); replace SY := Lib.hid (SY.out.below (below_new w6 (.cells #[.slice (some ⟨gp, 0, none⟩) n n, .int .i64 m, .int .i64 s] 24))); have p0 : (w6.alloc (.cells #[.slice (some ⟨gp, 0, none⟩) n n, .int .i64 m, .int .i64 s] 24)).cell? ⟨w6.heap.size, 0, none⟩ = some (.slice (some ⟨gp, 0, none⟩) n n) := (by go_simp); have p1 : (w6.alloc (.cells #[.slice (some ⟨gp, 0, none⟩) n n, .int .i64 m, .int .i64 s] 24)).cell? ⟨w6.heap.size, 1, none⟩ = some (.int .i64 m) := (by go_simp); have p2 : (w6.alloc (.cells #[.slice (some ⟨gp, 0, none⟩) n n, .int .i64 m, .int .i64 s] 24)).cell? ⟨w6.heap.size, 2, none⟩ = some (.int .i64 s) := (by go_simp); have SP := Lib.hid (hsn.below (below_new w6 (.cells #[.slice (some ⟨gp, 0, none⟩) n n, .int .i64 m, .int .i64 s] 24))); clear hx hsn))
    obtain ⟨pb, hpb⟩ : ∃ pb, pb = w6.heap.size := ⟨_, rfl⟩
    rw [← hpb] at p0 p1 p2
    rw [← hpb]
    clear hpb
    go_upto_region 9 with (go_at_call 21; go_loud (refine (invert_ok _ n2 cap2 m2 s2 l2 _ (HS2.out.below HB.out) HN2.out hw2 (HL.out.below HB.out) (by omega) HE2.out).mono ?_; rintro e w7 ⟨gq, rfl, hsn, hx⟩; replace HB := Lib.hid (below_on HB.out hx); replace c0 := cell_on hx c0; replace c1 := cell_on hx c1; replace c2 := cell_on hx c2; replace f0 := cell_on hx f0; replace f1 := cell_on hx f1; replace f2 := cell_on hx f2; replace x0 := cell_on hx x0; replace x1 := cell_on hx x1; replace x2 := cell_on hx x2; replace y0 := cell_on hx y0; replace y1 := cell_on hx y1; replace y2 := cell_on hx y2; replace p0 := cell_on hx p0; replace p1 := cell_on hx p1; replace p2 := cell_on hx p2; replace SX := Lib.hid (SX.out.below hx); replace SY := Lib.hid (SY.out.below hx); replace SP := Lib.hid (SP.out.below hx); replace HB := Lib.hid (below_on HB.out (below_new w7 (.cells #[.slice (some ⟨gq, 0, none⟩) n2 n2, .int .i64 m2, .int .i64 s2] 24))); replace c0 := cell_on (below_new w7 (.cells #[.slice (some ⟨gq, 0, none⟩) n2 n2, .int .i64 m2, .int .i64 s2] 24)) c0; replace c1 := cell_on (below_new w7 (.cells #[.slice (some ⟨gq, 0, none⟩) n2 n2, .int .i64 m2, .int .i64 s2] 24)) c1; replace c2 := cell_on (below_new w7 (.cells #[.slice (some ⟨gq, 0, none⟩) n2 n2, .int .i64 m2, .int .i64 s2] 24)) c2; replace f0 := cell_on (below_new w7 (.cells #[.slice (some ⟨gq, 0, none⟩) n2 n2, .int .i64 m2, .int .i64 s2] 24)) f0; replace f1 := cell_on (below_new w7 (.cells #[.slice (some ⟨gq, 0, none⟩) n2 n2, .int .i64 m2, .int .i64 s2] 24)) f1; replace f2 := cell_on (below_new w7 (.cells #[.slice (some ⟨gq, 0, none⟩) n2 n2, .int .i64 m2, .int .i64 s2] 24)) f2; replace x0 := cell_on (below_new w7 (.cells #[.slice (some ⟨gq, 0, none⟩) n2 n2, .int .i64 m2, .int .i64 s2] 24)) x0; replace x1 := cell_on (below_new w7 (.cells #[.slice (some ⟨gq, 0, none⟩) n2 n2, .int .i64 m2, .int .i64 s2] 24)) x1; replace x2 := cell_on (below_new w7 (.cells #[.slice (some ⟨gq, 0, none⟩) n2 n2, .int .i64 m2, .int .i64 s2] 24)) x2; replace y0 := cell_on (below_new w7 (.cells #[.slice (some ⟨gq, 0, none⟩) n2 n2, .int .i64 m2, .int .i64 s2] 24)) y0; replace y1 := cell_on (below_new w7 (.cells #[.slice (some ⟨gq, 0, none⟩) n2 n2, .int .i64 m2, .int .i64 s2] 24)) y1; replace y2 := cell_on (below_new w7 (.cells #[.slice (some ⟨gq, 0, none⟩) n2 n2, .int .i64 m2, .int .i64 s2] 24)) y2; replace p0 := cell_on (below_new w7 (.cells #[.slice (some ⟨gq, 0, none⟩) n2 n2, .int .i64 m2, .int .i64 s2] 24)) p0; replace p1 := cell_on (below_new w7 (.cells #[.slice (some ⟨gq, 0, none⟩) n2 n2, .int .i64 m2, .int .i64 s2] 24)) p1; replace p2 := cell_on (below_new w7 (.cells #[.slice (some ⟨gq, 0, none⟩) n2 n2, .int .i64 m2, .int .i64 s2] 24)) p2; replace SX := Lib.hid (SX.out.below (below_new w7 (.cells #[.slice (some ⟨gq, 0, none⟩) n2 n2, .int .i64 m2, .int .i64 s2] 24))); replace SY := Lib.hid (SY.out.below (below_new w7 (.cells #[.slice (some ⟨gq, 0, none⟩) n2 n2, .int .i64 m2, .int .i64 s2] 24))); replace SP := Lib.hid (SP.out.below (below_new w7 (.cells #[.slice (some ⟨gq, 0, none⟩) n2 n2, .int .i64 m2, .int .i64 s2] 24))); have q0 : (w7.alloc (.cells #[.slice (some ⟨gq, 0, none⟩) n2 n2, .int .i64 m2, .int .i64 s2] 24)).cell? ⟨w7.heap.size, 0, none⟩ = some (.slice (some ⟨gq, 0, none⟩) n2 n2) := (by go_simp); have q1 : (w7.alloc (.cells #[.slice (some ⟨gq, 0, none⟩) n2 n2, .int .i64 m2, .int .i64 s2] 24)).cell? ⟨w7.heap.size, 1, none⟩ = some (.int .i64 m2) := (by go_simp); have q2 : (w7.alloc (.cells #[.slice (some ⟨gq, 0, none⟩) n2 n2, .int .i64 m2, .int .i64 s2] 24)).cell? ⟨w7.heap.size, 2, none⟩ = some (.int .i64 s2) := (by go_simp); have SQ := Lib.hid (hsn.below (below_new w7 (.cells #[.slice (some ⟨gq, 0, none⟩) n2 n2, .int .i64 m2, .int .i64 s2] 24))); clear hx hsn))
    obtain ⟨qb, hqb⟩ : ∃ qb, qb = w7.heap.size := ⟨_, rfl⟩
    rw [← hqb] at q0 q1 q2
    rw [← hqb]
    clear hqb
    generalize w7.alloc (.cells #[.slice (some ⟨gq, 0, none⟩) n2 n2, .int .i64 m2, .int .i64 s2] 24) = wx9 at *
    have HM0 : (fun w' => w'.cell? ⟨w.heap.size, 1, none⟩ = some (.int .i64 m) ∧ w'.cell? ⟨w.heap.size, 2, none⟩ = some (.int .i64 s) ∧ w'.cell? ⟨w.heap.size + 1, 0, none⟩ = some (.slice a2 n2 cap2) ∧ w'.cell? ⟨pb, 0, none⟩ = some (.slice (some ⟨gp, 0, none⟩) n n) ∧ w'.cell? ⟨qb, 0, none⟩ = some (.slice (some ⟨gq, 0, none⟩) n2 n2) ∧ SliceC w' (some ⟨gp, 0, none⟩) (invL l) ∧ Below w.heap.size w w') wx9 := ⟨c1, c2, f0, p0, q0, SP.out, HB.out⟩
    have HMS := onK (below_drewN (n := 1) (Below.refl _ _)) HM0
    have HST := Lib.hid (St5.start wx9 n2 (invL l2) (sh (invL l) n2))
    go_cut [12] (fun s5 wx => ∃ (q : Nat) (aa : Option Addr) (cc : Nat), s5 = .pointer (some ⟨q, 0, none⟩) ∧ Hid (CJ wx9 (n2 + n) ((invL l2) ++ (sh (invL l) n2)) m s q aa cc wx))
    case first =>
      clear c0 c1 c2 f0 f1 f2 x0 x1 x2 y0 y1 y2 p0 p1 p2 q0 q1 q2 SX SY SP
      go_region_held3 (fun w' => w'.cell? ⟨w.heap.size, 1, none⟩ = some (.int .i64 m) ∧ w'.cell? ⟨w.heap.size, 2, none⟩ = some (.int .i64 s) ∧ w'.cell? ⟨w.heap.size + 1, 0, none⟩ = some (.slice a2 n2 cap2) ∧ w'.cell? ⟨pb, 0, none⟩ = some (.slice (some ⟨gp, 0, none⟩) n n) ∧ w'.cell? ⟨qb, 0, none⟩ = some (.slice (some ⟨gq, 0, none⟩) n2 n2) ∧ SliceC w' (some ⟨gp, 0, none⟩) (invL l) ∧ Below w.heap.size w w') (first | exact HMS | exact HX | assumption | (exact onK (below_new _ _) (by assumption)) | (exact onK (((HFIN.out.bel.setCell hz1 _).setCell hz1 _).setCell hz1 _) HM0))
        (first | (go_at_call 27; refine (shifted_any _ n n n2 (invL l) _ (onK_S (by assumption)) (by rw [invL_len]; exact HN.out) HWI.out (HL.out.below (onK_B (by assumption))) (by omega) HDI.out (by omega) (by omega)).mono ?_; rintro e wS ⟨ab, cb, rfl, hob, hg⟩; have HST := Lib.hid (St5.call (by first | (have hq := HST.out; (try simp only [sz_alloc, sz_drew] at hq); exact hq) | (have hq := HST.out.drew; (try simp only [sz_alloc, sz_drew] at hq); exact hq) | (have hq := HST.out.E; (try simp only [sz_alloc, sz_drew] at hq); exact hq) | (have hq := HST.out.E.drew; (try simp only [sz_alloc, sz_drew] at hq); exact hq) | (have hq := HST.out.B; (try simp only [sz_alloc, sz_drew] at hq); exact hq) | (have hq := HST.out.B.drew; (try simp only [sz_alloc, sz_drew] at hq); exact hq) | (have hq := HST.out.E.B; (try simp only [sz_alloc, sz_drew] at hq); exact hq) | (have hq := HST.out.E.B.drew; (try simp only [sz_alloc, sz_drew] at hq); exact hq) | (have hq := HST.out.B.E; (try simp only [sz_alloc, sz_drew] at hq); exact hq) | (have hq := HST.out.B.E.drew; (try simp only [sz_alloc, sz_drew] at hq); exact hq) | (have hq := HST.out.drew; (try simp only [sz_alloc, sz_drew] at hq); exact hq) | (have hq := HST.out.drew.E; (try simp only [sz_alloc, sz_drew] at hq); exact hq) | (have hq := HST.out.drew.E.drew; (try simp only [sz_alloc, sz_drew] at hq); exact hq) | (have hq := HST.out.drew.B; (try simp only [sz_alloc, sz_drew] at hq); exact hq) | (have hq := HST.out.drew.B.drew; (try simp only [sz_alloc, sz_drew] at hq); exact hq) | (have hq := HST.out.drew.E.B; (try simp only [sz_alloc, sz_drew] at hq); exact hq) | (have hq := HST.out.drew.E.B.drew; (try simp only [sz_alloc, sz_drew] at hq); exact hq) | (have hq := HST.out.drew.B.E; (try simp only [sz_alloc, sz_drew] at hq); exact hq) | (have hq := HST.out.drew.B.E.drew; (try simp only [sz_alloc, sz_drew] at hq); exact hq)) hg hob); have HX := onK hg (by assumption); clear hob) | (refine step_A1 rfl (.tmp 66) (.tmp 68) (by rfl) _ (by rfl) (some ⟨gq, 0, none⟩) n2 (by rfl) (by first | (have hq := HST.out; (try simp only [sz_alloc, sz_drew] at hq); exact hq) | (have hq := HST.out.drew; (try simp only [sz_alloc, sz_drew] at hq); exact hq) | (have hq := HST.out.E; (try simp only [sz_alloc, sz_drew] at hq); exact hq) | (have hq := HST.out.E.drew; (try simp only [sz_alloc, sz_drew] at hq); exact hq) | (have hq := HST.out.B; (try simp only [sz_alloc, sz_drew] at hq); exact hq) | (have hq := HST.out.B.drew; (try simp only [sz_alloc, sz_drew] at hq); exact hq) | (have hq := HST.out.E.B; (try simp only [sz_alloc, sz_drew] at hq); exact hq) | (have hq := HST.out.E.B.drew; (try simp only [sz_alloc, sz_drew] at hq); exact hq) | (have hq := HST.out.B.E; (try simp only [sz_alloc, sz_drew] at hq); exact hq) | (have hq := HST.out.B.E.drew; (try simp only [sz_alloc, sz_drew] at hq); exact hq) | (have hq := HST.out.drew; (try simp only [sz_alloc, sz_drew] at hq); exact hq) | (have hq := HST.out.drew.E; (try simp only [sz_alloc, sz_drew] at hq); exact hq) | (have hq := HST.out.drew.E.drew; (try simp only [sz_alloc, sz_drew] at hq); exact hq) | (have hq := HST.out.drew.B; (try simp only [sz_alloc, sz_drew] at hq); exact hq) | (have hq := HST.out.drew.B.drew; (try simp only [sz_alloc, sz_drew] at hq); exact hq) | (have hq := HST.out.drew.E.B; (try simp only [sz_alloc, sz_drew] at hq); exact hq) | (have hq := HST.out.drew.E.B.drew; (try simp only [sz_alloc, sz_drew] at hq); exact hq) | (have hq := HST.out.drew.B.E; (try simp only [sz_alloc, sz_drew] at hq); exact hq) | (have hq := HST.out.drew.B.E.drew; (try simp only [sz_alloc, sz_drew] at hq); exact hq)) (by rw [invL_len]; exact HN2.out) SQ.out (by omega) ?_; intro aa cc w' hst; have HX := onK hst.bel HM0; have HST := Lib.hid hst; clear hst) | (refine step_A2 rfl (.tmp 69) (.tmp 75) (by rfl) _ _ (by rfl) _ _ n (by rfl) (by first | (have hq := HST.out; (try simp only [sz_alloc, sz_drew] at hq); exact hq) | (have hq := HST.out.drew; (try simp only [sz_alloc, sz_drew] at hq); exact hq) | (have hq := HST.out.E; (try simp only [sz_alloc, sz_drew] at hq); exact hq) | (have hq := HST.out.E.drew; (try simp only [sz_alloc, sz_drew] at hq); exact hq) | (have hq := HST.out.B; (try simp only [sz_alloc, sz_drew] at hq); exact hq) | (have hq := HST.out.B.drew; (try simp only [sz_alloc, sz_drew] at hq); exact hq) | (have hq := HST.out.E.B; (try simp only [sz_alloc, sz_drew] at hq); exact hq) | (have hq := HST.out.E.B.drew; (try simp only [sz_alloc, sz_drew] at hq); exact hq) | (have hq := HST.out.B.E; (try simp only [sz_alloc, sz_drew] at hq); exact hq) | (have hq := HST.out.B.E.drew; (try simp only [sz_alloc, sz_drew] at hq); exact hq) | (have hq := HST.out.drew; (try simp only [sz_alloc, sz_drew] at hq); exact hq) | (have hq := HST.out.drew.E; (try simp only [sz_alloc, sz_drew] at hq); exact hq) | (have hq := HST.out.drew.E.drew; (try simp only [sz_alloc, sz_drew] at hq); exact hq) | (have hq := HST.out.drew.B; (try simp only [sz_alloc, sz_drew] at hq); exact hq) | (have hq := HST.out.drew.B.drew; (try simp only [sz_alloc, sz_drew] at hq); exact hq) | (have hq := HST.out.drew.E.B; (try simp only [sz_alloc, sz_drew] at hq); exact hq) | (have hq := HST.out.drew.E.B.drew; (try simp only [sz_alloc, sz_drew] at hq); exact hq) | (have hq := HST.out.drew.B.E; (try simp only [sz_alloc, sz_drew] at hq); exact hq) | (have hq := HST.out.drew.B.E.drew; (try simp only [sz_alloc, sz_drew] at hq); exact hq)) (by rw [invL_len]; exact HN2.out) (by rw [sh_len, invL_len]; exact HN.out) (by omega) (by omega) ?_; intro a3 c3 w' hfin; have HX := onK hfin.bel HM0; have HFIN := Lib.hid hfin; (try (obtain ⟨hz1, z0, z1, z2, z3, z4, z5, _⟩ := hfin.box _ rfl)); clear hfin))
      all_goals
        go_wp2_with fail
        go_meet
        exact ⟨_, _, _, rfl, Lib.hid (by first | exact HFIN.out.way1 | exact HFIN.out.way2)⟩
    case rest =>
      obtain ⟨zb, az, cz, rfl, HCZ⟩ := hcut
      have hx := HCZ.out.bel
      replace HB := Lib.hid (below_on HB.out hx)
      replace x0 := cell_on hx x0
      replace x1 := cell_on hx x1
      replace x2 := cell_on hx x2
      replace y0 := cell_on hx y0
      replace y1 := cell_on hx y1
      replace y2 := cell_on hx y2
      replace SX := Lib.hid (SX.out.below hx)
      replace SY := Lib.hid (SY.out.below hx)
      obtain ⟨z0, z1, z2⟩ := HCZ.out.bx
      have SZ := Lib.hid HCZ.out.sl
      clear hx HCZ HM0 HMS HST
      go_wp2_with (first | (go_at_call 16; go_loud (refine (valid_img _ (n + n2) cx m s (J l l2) _ SX.out HNJ.out WJ.out (HL.out.below HB.out) (by omega)).mono ?_; rintro e wv ⟨rfl, hx⟩; rw [HVJ.out]; replace HB := Lib.hid (below_on HB.out hx); replace y0 := cell_on hx y0; replace y1 := cell_on hx y1; replace y2 := cell_on hx y2; replace z0 := cell_on hx z0; replace z1 := cell_on hx z1; replace z2 := cell_on hx z2; replace SY := Lib.hid (SY.out.below hx); replace SZ := Lib.hid (SZ.out.below hx); clear hx)) | (go_at_call 22; go_loud (refine (same_any _ _ (n + n2) (n + n2) (n2 + n) cz m s m s (invL (J l l2)) (invL l2 ++ sh (invL l) n2) _ SY.out (by rw [invL_len]; exact HNJ.out) SZ.out (by rw [List.length_append, sh_len, invL_len, invL_len, HN.out, HN2.out]) (by omega)).mono ?_; rintro e wt ⟨rfl, hx⟩; rw [HSM.out]; replace HB := Lib.hid (below_on HB.out hx); clear hx)))
      go_ret
      exact ⟨rfl, HB.out⟩

set_option maxRecDepth 100000 in
theorem lifted (os : Os) (started : os.Started) (H : Type) (enc : TypeId × Value → H) :
    ReturnsInHanded {} Tryd.checked os 8 .any (fun w args => (Rows.imageJoinSpec.pre enc Tryd.prog Tryd.f8 [] false w args ∧ laidMetH Tryd.prog laidL w) ∧ sizedMet enc Tryd.prog Tryd.f8 (OpenSpec.ofChange Rows.imageJoinSpec) false w args)
      (Rows.imageJoinSpec.post enc Tryd.prog Tryd.f8 false true false false) := by
  refine returnsInHanded_of_change_and (C := Tryd.checked) (X := fun w _ => laidMetH Tryd.prog laidL w) (fun _ _ _ hh h => h.of_heap hh) own started (by kernel_rfl) Tryd.func8
    (ChangeSpec.witness_shaped (enc := enc) (C := Tryd.checked) (os := os) (X := fun w _ => laidMetH Tryd.prog laidL w) false (World.doorLaid Tryd.prog 400 os) #[.agg #[.slice none 0 0, .int .i64 0, .int .i64 0], .agg #[.slice none 0 0, .int .i64 0, .int .i64 0]] 8 rfl (World.shaped_of_RefB (by kernel_rfl) (by kernel_rfl)) (by kernel_rfl) (by kernel_rfl) (by kernel_rfl) (door_met os _)) ?_
  intro W base args ds gs before hval0 hW _ _ hLm _
  have hL := of_laid hLm
  have hval : ∀ (j : Nat) t v, Tryd.f8.params[j]? = some t → args[j]? = some v → Value.okWide Tryd.prog W .any base t v := hval0
  have hW' := hW
  obtain ⟨p, q, hA0, hV, rfl, hfz, hnd⟩ := hW
  have hA : DataW.TrodAll enc Tryd.prog W 0 (fun _ => true) true Tryd.f8.params.toList args.toList ds p := hA0
  rw [Tryd.params8] at hA hval
  obtain ⟨v0, vs0, d0, ds0, p0, q0, hargs, rfl, rfl, h0, r0⟩ := trodAll_cons hA
  obtain ⟨v1, vs1, d1, ds1, p1, q1, rfl, rfl, rfl, h1, r1⟩ := trodAll_cons r0
  obtain ⟨rfl, rfl, rfl⟩ := trodAll_nil r1
  obtain rfl : args = #[v0, v1] := by cases args; simp_all
  obtain ⟨rfl, rfl⟩ := trodVars_none hV
  have k0 := h0
  have lt0 : ∀ x ∈ p0, x.block < W.heap.size := by obtain ⟨m, hm⟩ := k0; exact DataW.trod_lt m _ _ _ hm
  obtain ⟨a, n, cap, m, s, l, rfl, hn, hb, hS, hw⟩ := open_image (hval 0 24 v0 rfl rfl) h0
  have k1 := h1
  have lt1 : ∀ x ∈ p1, x.block < W.heap.size := by obtain ⟨m, hm⟩ := k1; exact DataW.trod_lt m _ _ _ hm
  obtain ⟨a2, n2, cap2, m2, s2, l2, rfl, hn2, hb2, hS2, hw2⟩ := open_image (hval 1 24 v1 rfl rfl) h1
  clear hA0 hval0
  refine (walk a n cap m s l a2 n2 cap2 m2 s2 l2 W hn hb hS hw hn2 hb2 hS2 hw2 hL).mono fun e W' ⟨he, bel⟩ => ?_
  subst he
  exact ⟨_, rfl, _, _, _, [], _, [], hW', trodAll_mk1 (shut_bool Tryd.underlying4 _), (trodAll_cons_mk (Below.trod laidOut (by kernel_rfl) (of_decide_eq_true (by kernel_rfl)) k0 bel lt0) (trodAll_cons_mk (Below.trod laidOut (by kernel_rfl) (of_decide_eq_true (by kernel_rfl)) k1 bel lt1) trodAll_mk0)), rfl, bel.frame _, fun h => by cases h⟩

theorem over : Rows.imageJoinRow.holds Tryd.pinned (OpenSpec.ofChange Rows.imageJoinSpec) :=
  OpenClaim.holds_of_wide 8 Tryd.f8 rfl rfl rfl rfl rfl rfl rfl ⟨rfl, rfl, rfl, rfl, rfl⟩ rfl rfl rfl rfl rfl (by kernel_rfl) Tryd.func8 (by kernel_rfl)
    (of_decide_eq_true (by kernel_rfl)) (by unfold Func.isWrapper; first | (rw [if_pos (by decide +kernel)]; kernel_rfl) | (rw [if_neg (by decide +kernel)]; exact ⟨rfl, rfl⟩))
    (fun os started H enc _ => lifted os started H enc)

theorem proved : Rows.ImageJoinCardSaid :=
  Claim7.holds_tied_plain_at .later [] [.data] true (true, "e81659936c82e3a671cfc7106131e0789ef7ada7cc59735c1fc83ffbcfb7ed7d") false
    over (fun _ h => by cases h) (by kernel_rfl) (fun _ h => by cases h) imageJoin_row_tie rfl ⟨rfl, rfl⟩ (by kernel_rfl) rfl
    (fun f fn hf hfn => by
      obtain rfl : f = 8 := Option.some.inj ((show Tryd.prog.funcNamed "backstep/backsteplaw23.ImageJoin" = some 8 by kernel_rfl).symm.trans hf) |>.symm
      obtain rfl : fn = Tryd.f8 := (Option.some.inj (Tryd.func8.symm.trans hfn)).symm
      exact ⟨by kernel_rfl, fun j t ht => by
        rw [Tryd.params8] at ht
        have hm : t ∈ [24, 24] := by simpa using Array.mem_of_getElem? ht
        have hall : ([24, 24].all fun u => !Tryd.prog.wantsStandIn u) = true := by kernel_rfl
        exact (show Tryd.prog.wantsStandIn t = false by simpa using List.all_eq_true.1 hall t hm)⟩)
    (by kernel_rfl)
#print axioms proved
end Go.Proofs.YtalkhkhnpplofaaDoor.imageJoin
