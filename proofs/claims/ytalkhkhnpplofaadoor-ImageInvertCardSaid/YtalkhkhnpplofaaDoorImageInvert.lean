/- The tied card of ImageInvert: it answers true for every image, where the table of instructions holds what the program's text lays in it. -/
import Derived.Test.YtalkhkhnpplofaaDoorRows
import Derived.Test.YtalkhkhnpplofaaDoorCards
import Derived.Test.YtalkhkhnpplofaaDoorTie
import Derived.LaidMore
import Derived.Stop.Joined
import Derived.SevenTiedAt
import Derived.WalkKit
import Derived.ProofKit
import Derived.OpenShut
import Derived.ShutString
import Derived.ChangeOld
import Derived.Below
import Derived.Test.YtalkhkhnpplofaaDoorArg
import Derived.Lib.Hide
import Derived.Deep.RegionHeld3
import Derived.Deep.QuietTactic
import Derived.BigQuiet
import Derived.WalkSmall
import Derived.Outline
import Derived.IntWalk
import Derived.StillTailTactics
import Derived.Handy
import Derived.Deep.Cut
import Derived.Deep.OwnRows
import Derived.Deep.RegionWith
import Derived.WalkLawsBesides
import Derived.WalkSpells
import Derived.Test.YtalkhkhnpplofaaDoorRInv
import Derived.Test.YtalkhkhnpplofaaDoorInvBad
namespace Go.Proofs.YtalkhkhnpplofaaDoor.imageInvert
open Go.ChangeShapes Go.WideShapes Go.ChangeAt Go.RowKit
open Go.ChangeMaps (open_string shut_string)
set_option linter.unusedSimpArgs false
set_option linter.unusedVariables false

theorem own : ownKnob Tryd.prog.godebug = none := by kernel_rfl
theorem laidOut : laidOutB Tryd.prog = true := by kernel_rfl

/-- what the listed variables hold when the call begins -/
abbrev laidL {H : Type} : List (String × DataW H) := [("backstep/isa.table", Rows.laid_backstep_isa_table)]
theorem gno0 : Tryd.prog.globalNamed "backstep/isa.table" = some 0 := by kernel_rfl
theorem gty0 : (Tryd.prog.globals[0]?).map (·.type) = some 80 := by kernel_rfl
theorem door_met (os : Os) (args : Array Value) : laidMetH Tryd.prog laidL ((World.doorLaid Tryd.prog 400 os).forCall (fun _ _ => 0) ⟨#[], args, []⟩).memory :=
  laidMetH_of_parts3 (fuel := 8) (laidMet_of_run' 8 (by kernel_rfl) (by kernel_rfl)) (by kernel_rfl) (by kernel_rfl)
theorem onM {w w1 w2 : World} {xb g2 n : Nat} {a : Option Addr} {cap : Nat} {m s : Int} {l : List Ins} (hg : Below w1.heap.size w1 w2) (h : (fun w' => w'.cell? ⟨w.heap.size, 0, none⟩ = some (.slice a n cap) ∧ w'.cell? ⟨w.heap.size, 1, none⟩ = some (.int .i64 m) ∧ w'.cell? ⟨w.heap.size, 2, none⟩ = some (.int .i64 s) ∧ w'.cell? ⟨xb, 0, none⟩ = some (.slice (some ⟨g2, 0, none⟩) n n) ∧ w'.cell? ⟨xb, 1, none⟩ = some (.int .i64 m) ∧ w'.cell? ⟨xb, 2, none⟩ = some (.int .i64 s) ∧ Below w.heap.size w w' ∧ SliceC w' (some ⟨g2, 0, none⟩) (invL l)) w1) : (fun w' => w'.cell? ⟨w.heap.size, 0, none⟩ = some (.slice a n cap) ∧ w'.cell? ⟨w.heap.size, 1, none⟩ = some (.int .i64 m) ∧ w'.cell? ⟨w.heap.size, 2, none⟩ = some (.int .i64 s) ∧ w'.cell? ⟨xb, 0, none⟩ = some (.slice (some ⟨g2, 0, none⟩) n n) ∧ w'.cell? ⟨xb, 1, none⟩ = some (.int .i64 m) ∧ w'.cell? ⟨xb, 2, none⟩ = some (.int .i64 s) ∧ Below w.heap.size w w' ∧ SliceC w' (some ⟨g2, 0, none⟩) (invL l)) w2 := by
  obtain ⟨h0, h1, h2, h3, h4, h5, hB, hS⟩ := h
  exact ⟨cell_on hg h0, cell_on hg h1, cell_on hg h2, cell_on hg h3, cell_on hg h4, cell_on hg h5, below_on hB hg, hS.below hg⟩
theorem onM_B {w w1 : World} {xb g2 n : Nat} {a : Option Addr} {cap : Nat} {m s : Int} {l : List Ins} (h : (fun w' => w'.cell? ⟨w.heap.size, 0, none⟩ = some (.slice a n cap) ∧ w'.cell? ⟨w.heap.size, 1, none⟩ = some (.int .i64 m) ∧ w'.cell? ⟨w.heap.size, 2, none⟩ = some (.int .i64 s) ∧ w'.cell? ⟨xb, 0, none⟩ = some (.slice (some ⟨g2, 0, none⟩) n n) ∧ w'.cell? ⟨xb, 1, none⟩ = some (.int .i64 m) ∧ w'.cell? ⟨xb, 2, none⟩ = some (.int .i64 s) ∧ Below w.heap.size w w' ∧ SliceC w' (some ⟨g2, 0, none⟩) (invL l)) w1) : Below w.heap.size w w1 := h.2.2.2.2.2.2.1
theorem onM_S {w w1 : World} {xb g2 n : Nat} {a : Option Addr} {cap : Nat} {m s : Int} {l : List Ins} (h : (fun w' => w'.cell? ⟨w.heap.size, 0, none⟩ = some (.slice a n cap) ∧ w'.cell? ⟨w.heap.size, 1, none⟩ = some (.int .i64 m) ∧ w'.cell? ⟨w.heap.size, 2, none⟩ = some (.int .i64 s) ∧ w'.cell? ⟨xb, 0, none⟩ = some (.slice (some ⟨g2, 0, none⟩) n n) ∧ w'.cell? ⟨xb, 1, none⟩ = some (.int .i64 m) ∧ w'.cell? ⟨xb, 2, none⟩ = some (.int .i64 s) ∧ Below w.heap.size w w' ∧ SliceC w' (some ⟨g2, 0, none⟩) (invL l)) w1) : SliceC w1 (some ⟨g2, 0, none⟩) (invL l) := h.2.2.2.2.2.2.2

def Laid (W : World) : Prop := Go.Proofs.YtalkhkhnpplofaaDoor.Laid W
theorem of_laid {W : World} (h : laidMetH Tryd.prog laidL W) : Laid W := by
  rw [MakeChecks.laidMetH_plain _ _ _ (by kernel_rfl)] at h
  obtain ⟨ps, ⟨g0, t0, cs0, f0, p0, q0, hg0, ht0, hv0, hd0, _, _⟩, _, _⟩ := h
  obtain rfl := Option.some.inj (gno0.symm.trans hg0)
  obtain rfl := Option.some.inj (gty0.symm.trans ht0)
  intro n hn
  have hd : DataW.trod (fun _ : TypeId × Value => ()) Tryd.prog W 0 (fun _ => true) false f0 80 cs0.toList = some (Rows.laid_backstep_isa_table, p0) := hd0
  have hr := pair_at Tryd.underlying80 Tryd.underlying65 (by kernel_rfl) (by kernel_rfl) Tryd.underlying9 ⟨rfl, rfl⟩ ⟨rfl, rfl⟩ hd n _ _ (table_at n hn)
  rw [Array.getElem?_toList, Array.getElem?_toList] at hr
  exact ⟨(World.var?_cell hg0 hv0 (n * 2)).trans hr.1, (World.var?_cell hg0 hv0 (n * 2 + 1)).trans hr.2⟩

set_option maxRecDepth 100000 in
set_option maxHeartbeats 2000000 in
theorem walk (a : Option Addr) (n cap : Nat) (m s : Int) (l : List Ins) (w : World) (hn : l.length = n) (hb : n ≤ maxLen) (hS : SliceC w a l) (hw : WF l) (hL : Laid w) :
    Calls Tryd.prog 5 #[.agg #[.slice a n cap, .int .i64 m, .int .i64 s]] w fun e w' => e = .returned (.bool true) ∧ Below w.heap.size w w' := by
  have HS := Lib.hid hS
  have HL := Lib.hid hL
  have HN := Lib.hid hn
  have HB : Hid (Below w.heap.size w (w.alloc (.cells #[.slice a n cap, .int .i64 m, .int .i64 s] 24))) := Lib.hid ((Below.refl _ _).alloc (Nat.le_refl _) _)
  have c0 : (w.alloc (.cells #[.slice a n cap, .int .i64 m, .int .i64 s] 24)).cell? ⟨w.heap.size, 0, none⟩ = some (.slice a n cap) := by go_simp
  have c1 : (w.alloc (.cells #[.slice a n cap, .int .i64 m, .int .i64 s] 24)).cell? ⟨w.heap.size, 1, none⟩ = some (.int .i64 m) := by go_simp
  have c2 : (w.alloc (.cells #[.slice a n cap, .int .i64 m, .int .i64 s] 24)).cell? ⟨w.heap.size, 2, none⟩ = some (.int .i64 s) := by go_simp
  unfold maxLen at hb
  clear hS hL hn
  by_cases hg : (80 : Int) < (n : Int)
  · have HG := Lib.hid (decide_eq_true hg)
    go_enter Tryd.func5, Tryd.ntmps5
    go_wp2_with (first | (go_at_call 12; refine (awake_any _ (HL.out.below HB.out)).mono ?_; rintro e w1 ⟨rfl, hx⟩; replace HB := Lib.hid (below_on HB.out hx); replace c0 := cell_on hx c0; replace c1 := cell_on hx c1; replace c2 := cell_on hx c2; clear hx) | (go_at_call 13; refine (great_any _ _ _ _ _ _).mono ?_; rintro e w1 ⟨rfl, hx⟩; rw [HG.out]; replace HB := Lib.hid (below_on HB.out hx); replace c0 := cell_on hx c0; replace c1 := cell_on hx c1; replace c2 := cell_on hx c2; clear hx))
    go_ret
    exact ⟨rfl, HB.out⟩
  have HG := Lib.hid (decide_eq_false hg)
  have HSM := Lib.hid (show sameB m s m s l l = true by unfold sameB; simp)
  have HSM2 := Lib.hid (show sameB m s m s (invL l) (invL l) = true by unfold sameB; simp)
  go_enter Tryd.func5, Tryd.ntmps5
  go_upto_region 5 with (first | (go_at_call 12; refine (awake_any _ (HL.out.below HB.out)).mono ?_; rintro e w1 ⟨rfl, hx⟩; replace HB := Lib.hid (below_on HB.out hx); replace c0 := cell_on hx c0; replace c1 := cell_on hx c1; replace c2 := cell_on hx c2; clear hx) | (go_at_call 13; refine (great_any _ _ _ _ _ _).mono ?_; rintro e w1 ⟨rfl, hx⟩; rw [HG.out]; replace HB := Lib.hid (below_on HB.out hx); replace c0 := cell_on hx c0; replace c1 := cell_on hx c1; replace c2 := cell_on hx c2; clear hx))
  have HM0 : (fun w' => w'.cell? ⟨w.heap.size, 0, none⟩ = some (.slice a n cap) ∧ w'.cell? ⟨w.heap.size, 1, none⟩ = some (.int .i64 m) ∧ w'.cell? ⟨w.heap.size, 2, none⟩ = some (.int .i64 s) ∧ Below w.heap.size w w' ∧ SliceC w' a l) w1 := ⟨c0, c1, c2, HB.out, HS.out.below HB.out⟩
  have HMS := onC (below_drewN (n := 1) (Below.refl _ _)) HM0
  clear c0 c1 c2 HB
  go_region_held3 (fun w' => w'.cell? ⟨w.heap.size, 0, none⟩ = some (.slice a n cap) ∧ w'.cell? ⟨w.heap.size, 1, none⟩ = some (.int .i64 m) ∧ w'.cell? ⟨w.heap.size, 2, none⟩ = some (.int .i64 s) ∧ Below w.heap.size w w' ∧ SliceC w' a l) (first | exact HMS | exact HX | assumption | (exact onC (below_new _ _) (by assumption)) | (exact onC (((hbel.setCell (by simp) _).setCell (by simp) _).setCell (by simp) _) HM0))
      ((refine step_copyI rfl (.tmp 12) (.tmp 14) (by rfl) w1 (by go_grown) _ (by rfl) (by first | exact ownI_new _ _ _ (by simp) (by simp) | exact (ownI_new _ _ _ (by simp) (by simp)).alloc _) a cap n l (by rfl) HN.out (HM0.2.2.2.2.below (by go_grown)) (by omega) ?_; intro aa cc w' hown hbel hcc hff; have HX := onC hbel HM0; have HO := Lib.hid hown; clear hown))
  rotate_left
  all_goals (have hz3 := hbel.size)
  focus
    have b0 : World.cell? w' ⟨w1.heap.size + 1, 0, none⟩ = some (.slice none 0 0) := (hcc _ 0 (by simp) (by simp)).trans (by go_simp)
    have b1 : World.cell? w' ⟨w1.heap.size + 1, 1, none⟩ = some (.int .i64 0) := (hcc _ 1 (by simp) (by simp)).trans (by go_simp)
    have b2 : World.cell? w' ⟨w1.heap.size + 1, 2, none⟩ = some (.int .i64 0) := (hcc _ 2 (by simp) (by simp)).trans (by go_simp)
    have HCP := Lib.hid (CP.way2 HM0 hbel HO.out (by omega : w1.heap.size ≤ w1.heap.size + 1) b0 b1 b2)
    clear hcc hff HX HMS HO b0 b1 b2
    generalize (((w'.setCell ⟨w1.heap.size + 1, 0, none⟩ (.slice aa n cc)).setCell ⟨w1.heap.size + 1, 1, none⟩ (.int .i64 m)).setCell ⟨w1.heap.size + 1, 2, none⟩ (.int .i64 s)) = W at *
    generalize w1.heap.size + 1 = q at *
  rotate_left
  focus
    have b0 : World.cell? w' ⟨w1.heap.size, 0, none⟩ = some (.slice none 0 0) := (hcc _ 0 (by simp; try omega) (by simp)).trans (by go_simp)
    have b1 : World.cell? w' ⟨w1.heap.size, 1, none⟩ = some (.int .i64 0) := (hcc _ 1 (by simp; try omega) (by simp)).trans (by go_simp)
    have b2 : World.cell? w' ⟨w1.heap.size, 2, none⟩ = some (.int .i64 0) := (hcc _ 2 (by simp; try omega) (by simp)).trans (by go_simp)
    have HCP := Lib.hid (CP.way2 HM0 hbel HO.out (Nat.le_refl w1.heap.size) b0 b1 b2)
    clear hcc hff HX HMS HO b0 b1 b2
    generalize (((w'.setCell ⟨w1.heap.size, 0, none⟩ (.slice aa n cc)).setCell ⟨w1.heap.size, 1, none⟩ (.int .i64 m)).setCell ⟨w1.heap.size, 2, none⟩ (.int .i64 s)) = W at *
    obtain ⟨q, hq⟩ : ∃ q, q = w1.heap.size := ⟨_, rfl⟩
    rw [← hq]
    have HCQ : Hid (CP w n a cap m s l w1 q aa cc W) := by rw [hq]; exact HCP
    clear HCP hq
    have HCP := HCQ
    clear HCQ
  rotate_left
  focus
    have HCP := Lib.hid (CP.way1 HM0 hbel HO.out)
    clear hcc hff HX HMS HO
    generalize (w'.alloc (.cells #[.slice aa n cc, .int .i64 m, .int .i64 s] 24)) = W at *
    generalize w'.heap.size = q at *
  all_goals
    obtain ⟨⟨c0, c1, c2, hB, hS2⟩, ⟨o0, o1, o2⟩, hsl, hfr, hbl1, hq1, hq2⟩ := HCP.out
    have HB := Lib.hid hB
    have SO := Lib.hid hsl
    have tokS : True := trivial
    clear HCP hB hS2 hsl hfr hbl1 HM0
    by_cases hv : ckE l m s = 0
    · have HE := Lib.hid hv
      have HCE := Lib.hid hv
      have HD := Lib.hid (wd_ck.1 hv).2
      clear hv
      go_upto_region 12 with (first | (go_at_call 21; refine (invert_ok _ n cc m s l _ SO.out HN.out hw (HL.out.below HB.out) (by omega) HE.out).mono ?_; rintro e w5 ⟨g2, rfl, hsx, hx⟩; replace HB := Lib.hid (below_on HB.out hx); replace c0 := cell_on hx c0; replace c1 := cell_on hx c1; replace c2 := cell_on hx c2; replace o0 := cell_on hx o0; replace o1 := cell_on hx o1; replace o2 := cell_on hx o2; replace SO := Lib.hid (SO.out.below hx); replace HB := Lib.hid (below_on HB.out (below_new w5 (.cells #[.slice (some ⟨g2, 0, none⟩) n n, .int .i64 m, .int .i64 s] 24))); replace c0 := cell_on (below_new w5 (.cells #[.slice (some ⟨g2, 0, none⟩) n n, .int .i64 m, .int .i64 s] 24)) c0; replace c1 := cell_on (below_new w5 (.cells #[.slice (some ⟨g2, 0, none⟩) n n, .int .i64 m, .int .i64 s] 24)) c1; replace c2 := cell_on (below_new w5 (.cells #[.slice (some ⟨g2, 0, none⟩) n n, .int .i64 m, .int .i64 s] 24)) c2; replace o0 := cell_on (below_new w5 (.cells #[.slice (some ⟨g2, 0, none⟩) n n, .int .i64 m, .int .i64 s] 24)) o0; replace o1 := cell_on (below_new w5 (.cells #[.slice (some ⟨g2, 0, none⟩) n n, .int .i64 m, .int .i64 s] 24)) o1; replace o2 := cell_on (below_new w5 (.cells #[.slice (some ⟨g2, 0, none⟩) n n, .int .i64 m, .int .i64 s] 24)) o2; replace SO := Lib.hid (SO.out.below (below_new w5 (.cells #[.slice (some ⟨g2, 0, none⟩) n n, .int .i64 m, .int .i64 s] 24))); have x0 : (w5.alloc (.cells #[.slice (some ⟨g2, 0, none⟩) n n, .int .i64 m, .int .i64 s] 24)).cell? ⟨w5.heap.size, 0, none⟩ = some (.slice (some ⟨g2, 0, none⟩) n n) := (by go_simp); have x1 : (w5.alloc (.cells #[.slice (some ⟨g2, 0, none⟩) n n, .int .i64 m, .int .i64 s] 24)).cell? ⟨w5.heap.size, 1, none⟩ = some (.int .i64 m) := (by go_simp); have x2 : (w5.alloc (.cells #[.slice (some ⟨g2, 0, none⟩) n n, .int .i64 m, .int .i64 s] 24)).cell? ⟨w5.heap.size, 2, none⟩ = some (.int .i64 s) := (by go_simp); have SX := Lib.hid (hsx.below (below_new w5 (.cells #[.slice (some ⟨g2, 0, none⟩) n n, .int .i64 m, .int .i64 s] 24))); clear hx hsx) | (go_at_call 22; have _t := tokS; go_loud (refine (same_any _ _ n cc n cap m s m s l l _ SO.out HN.out (HS.out.below HB.out) HN.out (by omega)).mono ?_; rintro e w6 ⟨rfl, hx⟩; rw [HSM.out]; replace HB := Lib.hid (below_on HB.out hx); replace c0 := cell_on hx c0; replace c1 := cell_on hx c1; replace c2 := cell_on hx c2; replace o0 := cell_on hx o0; replace o1 := cell_on hx o1; replace o2 := cell_on hx o2; replace x0 := cell_on hx x0; replace x1 := cell_on hx x1; replace x2 := cell_on hx x2; replace SX := Lib.hid (SX.out.below hx); clear hx tokS _t)) | (go_at_call 15; go_loud (refine (rcheck_any _ n cap m s l _ (HS.out.below HB.out) HN.out hw (by omega)).mono ?_; rintro e w7 ⟨rfl, hx⟩; rw [HCE.out]; replace HB := Lib.hid (below_on HB.out hx); replace c0 := cell_on hx c0; replace c1 := cell_on hx c1; replace c2 := cell_on hx c2; replace x0 := cell_on hx x0; replace x1 := cell_on hx x1; replace x2 := cell_on hx x2; replace SX := Lib.hid (SX.out.below hx); clear hx)))
      have hxlt := World.block_lt_of_cell? _ _ x0
      obtain ⟨xb, hxb⟩ : ∃ xb, xb = w5.heap.size := ⟨_, rfl⟩
      rw [← hxb] at x0 x1 x2
      rw [← hxb]
      have HMX : (fun w' => w'.cell? ⟨w.heap.size, 0, none⟩ = some (.slice a n cap) ∧ w'.cell? ⟨w.heap.size, 1, none⟩ = some (.int .i64 m) ∧ w'.cell? ⟨w.heap.size, 2, none⟩ = some (.int .i64 s) ∧ w'.cell? ⟨xb, 0, none⟩ = some (.slice (some ⟨g2, 0, none⟩) n n) ∧ w'.cell? ⟨xb, 1, none⟩ = some (.int .i64 m) ∧ w'.cell? ⟨xb, 2, none⟩ = some (.int .i64 s) ∧ Below w.heap.size w w' ∧ SliceC w' (some ⟨g2, 0, none⟩) (invL l)) _ := ⟨c0, c1, c2, x0, x1, x2, HB.out, SX.out⟩
      have HMY := onM (below_drewN (n := 1) (Below.refl _ _)) HMX
      clear c0 c1 c2 x0 x1 x2 HB SX o0 o1 o2 SO hxb hxlt
      go_region_held3 (fun w' => w'.cell? ⟨w.heap.size, 0, none⟩ = some (.slice a n cap) ∧ w'.cell? ⟨w.heap.size, 1, none⟩ = some (.int .i64 m) ∧ w'.cell? ⟨w.heap.size, 2, none⟩ = some (.int .i64 s) ∧ w'.cell? ⟨xb, 0, none⟩ = some (.slice (some ⟨g2, 0, none⟩) n n) ∧ w'.cell? ⟨xb, 1, none⟩ = some (.int .i64 m) ∧ w'.cell? ⟨xb, 2, none⟩ = some (.int .i64 s) ∧ Below w.heap.size w w' ∧ SliceC w' (some ⟨g2, 0, none⟩) (invL l)) (first | exact HMX | exact HMY | exact HX | assumption)
        (first | (go_at_call 23; refine (rinvert_any _ n cap m s l _ (HS.out.below (onM_B (by assumption))) HN.out hw (by omega) HD.out).mono ?_; rintro e w8 ⟨a8, c8, rfl, hs8, hg⟩; have HX := onM hg (by assumption); have HS8 := Lib.hid hs8; clear hs8) | (go_at_call 22; refine (same_any _ _ n n n _ m s m s (invL l) (invL l) _ (onM_S (by assumption)) (by rw [invL_len]; exact HN.out) HS8.out (by rw [invL_len]; exact HN.out) (by omega)).mono ?_; rintro e w9 ⟨rfl, hg⟩; rw [HSM2.out]; have HX9 := onM hg HX))
      go_wp2
      go_ret
      exact ⟨rfl, onM_B HX9⟩
    · have hne : (ckE l m s != 0) = true := by simpa using hv
      have HE := Lib.hid hv
      have he : (ckE l m s == ckE l m s) = true := by simp
      have HS0 := Lib.hid (show sameB 0 0 0 0 ([] : List Ins) [] = true by decide +kernel)
      clear hv
      go_wp2_with (first | (go_at_call 21; go_loud (refine (invert_bad _ n cc m s l _ SO.out HN.out hw (HL.out.below HB.out) (by omega) HE.out).mono ?_; rintro e w5 ⟨rfl, hx⟩; replace HB := Lib.hid (below_on HB.out hx); replace c0 := cell_on hx c0; replace c1 := cell_on hx c1; replace c2 := cell_on hx c2; replace o0 := cell_on hx o0; replace o1 := cell_on hx o1; replace o2 := cell_on hx o2; replace SO := Lib.hid (SO.out.below hx); replace HB := Lib.hid (below_on HB.out (below_new w5 (.cells #[.slice none 0 0, .int .i64 0, .int .i64 0] 24))); replace c0 := cell_on (below_new w5 (.cells #[.slice none 0 0, .int .i64 0, .int .i64 0] 24)) c0; replace c1 := cell_on (below_new w5 (.cells #[.slice none 0 0, .int .i64 0, .int .i64 0] 24)) c1; replace c2 := cell_on (below_new w5 (.cells #[.slice none 0 0, .int .i64 0, .int .i64 0] 24)) c2; replace o0 := cell_on (below_new w5 (.cells #[.slice none 0 0, .int .i64 0, .int .i64 0] 24)) o0; replace o1 := cell_on (below_new w5 (.cells #[.slice none 0 0, .int .i64 0, .int .i64 0] 24)) o1; replace o2 := cell_on (below_new w5 (.cells #[.slice none 0 0, .int .i64 0, .int .i64 0] 24)) o2; replace SO := Lib.hid (SO.out.below (below_new w5 (.cells #[.slice none 0 0, .int .i64 0, .int .i64 0] 24))); have x0 : (w5.alloc (.cells #[.slice none 0 0, .int .i64 0, .int .i64 0] 24)).cell? ⟨w5.heap.size, 0, none⟩ = some (.slice none 0 0) := (by go_simp); have x1 : (w5.alloc (.cells #[.slice none 0 0, .int .i64 0, .int .i64 0] 24)).cell? ⟨w5.heap.size, 1, none⟩ = some (.int .i64 0) := (by go_simp); have x2 : (w5.alloc (.cells #[.slice none 0 0, .int .i64 0, .int .i64 0] 24)).cell? ⟨w5.heap.size, 2, none⟩ = some (.int .i64 0) := (by go_simp); clear hx)) | (go_at_call 22; have _t := tokS; go_loud (refine (same_any _ _ n cc n cap m s m s l l _ SO.out HN.out (HS.out.below HB.out) HN.out (by omega)).mono ?_; rintro e w6 ⟨rfl, hx⟩; rw [HSM.out]; replace HB := Lib.hid (below_on HB.out hx); replace c0 := cell_on hx c0; replace c1 := cell_on hx c1; replace c2 := cell_on hx c2; replace o0 := cell_on hx o0; replace o1 := cell_on hx o1; replace o2 := cell_on hx o2; replace x0 := cell_on hx x0; replace x1 := cell_on hx x1; replace x2 := cell_on hx x2; skip; clear hx tokS _t)) | (go_at_call 15; go_loud (refine (rcheck_any _ n cap m s l _ (HS.out.below HB.out) HN.out hw (by omega)).mono ?_; rintro e w7 ⟨rfl, hx⟩; replace HB := Lib.hid (below_on HB.out hx); replace c0 := cell_on hx c0; replace c1 := cell_on hx c1; replace c2 := cell_on hx c2; replace x0 := cell_on hx x0; replace x1 := cell_on hx x1; replace x2 := cell_on hx x2; skip; clear hx)) | (go_at_call 22; go_loud (refine (same_any _ _ 0 0 0 0 0 0 0 0 [] [] _ (fun h => absurd rfl h) rfl (fun h => absurd rfl h) rfl (by omega)).mono ?_; rintro e w6 ⟨rfl, hx⟩; rw [HS0.out]; replace HB := Lib.hid (below_on HB.out hx); replace c0 := cell_on hx c0; replace c1 := cell_on hx c1; replace c2 := cell_on hx c2; clear hx)))
      go_ret
      exact ⟨rfl, HB.out⟩

set_option maxRecDepth 100000 in
theorem lifted (os : Os) (started : os.Started) (H : Type) (enc : TypeId × Value → H) :
    ReturnsInHanded {} Tryd.checked os 5 .any (fun w args => (Rows.imageInvertSpec.pre enc Tryd.prog Tryd.f5 [] false w args ∧ laidMetH Tryd.prog laidL w) ∧ sizedMet enc Tryd.prog Tryd.f5 (OpenSpec.ofChange Rows.imageInvertSpec) false w args)
      (Rows.imageInvertSpec.post enc Tryd.prog Tryd.f5 false true false false) := by
  refine returnsInHanded_of_change_and (C := Tryd.checked) (X := fun w _ => laidMetH Tryd.prog laidL w) (fun _ _ _ hh h => h.of_heap hh) own started (by kernel_rfl) Tryd.func5
    (ChangeSpec.witness_shaped (enc := enc) (C := Tryd.checked) (os := os) (X := fun w _ => laidMetH Tryd.prog laidL w) false (World.doorLaid Tryd.prog 400 os) #[.agg #[.slice none 0 0, .int .i64 0, .int .i64 0]] 8 rfl (World.shaped_of_RefB (by kernel_rfl) (by kernel_rfl)) (by kernel_rfl) (by kernel_rfl) (by kernel_rfl) (door_met os _)) ?_
  intro W base args ds gs before hval0 hW _ _ hLm _
  have hL := of_laid hLm
  have hval : ∀ (j : Nat) t v, Tryd.f5.params[j]? = some t → args[j]? = some v → Value.okWide Tryd.prog W .any base t v := hval0
  have hW' := hW
  obtain ⟨p, q, hA0, hV, rfl, hfz, hnd⟩ := hW
  have hA : DataW.TrodAll enc Tryd.prog W 0 (fun _ => true) true Tryd.f5.params.toList args.toList ds p := hA0
  rw [Tryd.params5] at hA hval
  obtain ⟨v0, vs0, d0, ds0, p0, q0, hargs, rfl, rfl, h0, r0⟩ := trodAll_cons hA
  obtain ⟨rfl, rfl, rfl⟩ := trodAll_nil r0
  obtain rfl : args = #[v0] := by cases args; simp_all
  obtain ⟨rfl, rfl⟩ := trodVars_none hV
  have k0 := h0
  have lt0 : ∀ x ∈ p0, x.block < W.heap.size := by obtain ⟨m, hm⟩ := k0; exact DataW.trod_lt m _ _ _ hm
  obtain ⟨a, n, cap, m, s, l, rfl, hn, hb, hS, hw⟩ := open_image (hval 0 24 v0 rfl rfl) h0
  clear hA0 hval0
  refine (walk a n cap m s l W hn hb hS hw hL).mono fun e W' ⟨he, bel⟩ => ?_
  subst he
  exact ⟨_, rfl, _, _, _, [], _, [], hW', trodAll_mk1 (shut_bool Tryd.underlying4 _), (trodAll_cons_mk (Below.trod laidOut (by kernel_rfl) (of_decide_eq_true (by kernel_rfl)) k0 bel lt0) trodAll_mk0), rfl, bel.frame _, fun h => by cases h⟩

theorem over : Rows.imageInvertRow.holds Tryd.pinned (OpenSpec.ofChange Rows.imageInvertSpec) :=
  OpenClaim.holds_of_wide 5 Tryd.f5 rfl rfl rfl rfl rfl rfl rfl ⟨rfl, rfl, rfl, rfl, rfl⟩ rfl rfl rfl rfl rfl (by kernel_rfl) Tryd.func5 (by kernel_rfl)
    (of_decide_eq_true (by kernel_rfl)) (by unfold Func.isWrapper; first | (rw [if_pos (by decide +kernel)]; kernel_rfl) | (rw [if_neg (by decide +kernel)]; exact ⟨rfl, rfl⟩))
    (fun os started H enc _ => lifted os started H enc)

theorem proved : Rows.ImageInvertCardSaid :=
  Claim7.holds_tied_plain_at .later [] [.data] true (true, "e81659936c82e3a671cfc7106131e0789ef7ada7cc59735c1fc83ffbcfb7ed7d") false
    over (fun _ h => by cases h) (by kernel_rfl) (fun _ h => by cases h) imageInvert_row_tie rfl ⟨rfl, rfl⟩ (by kernel_rfl) rfl
    (fun f fn hf hfn => by
      obtain rfl : f = 5 := Option.some.inj ((show Tryd.prog.funcNamed "backstep/backsteplaw23.ImageInvert" = some 5 by kernel_rfl).symm.trans hf) |>.symm
      obtain rfl : fn = Tryd.f5 := (Option.some.inj (Tryd.func5.symm.trans hfn)).symm
      exact ⟨by kernel_rfl, fun j t ht => by
        rw [Tryd.params5] at ht
        have hm : t ∈ [24] := by simpa using Array.mem_of_getElem? ht
        have hall : ([24].all fun u => !Tryd.prog.wantsStandIn u) = true := by kernel_rfl
        exact (show Tryd.prog.wantsStandIn t = false by simpa using List.all_eq_true.1 hall t hm)⟩)
    (by kernel_rfl)
#print axioms proved
end Go.Proofs.YtalkhkhnpplofaaDoor.imageInvert
