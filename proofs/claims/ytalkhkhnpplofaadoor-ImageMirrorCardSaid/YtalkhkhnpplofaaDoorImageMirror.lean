/- The tied card of ImageMirror: it answers true for every image, where the table of instructions holds what the program's text lays in it. -/
import Derived.Test.YtalkhkhnpplofaaDoorRows
import Derived.Test.YtalkhkhnpplofaaDoorCards
import Derived.Test.YtalkhkhnpplofaaDoorTie
import Derived.LaidMore
import Derived.Stop.Joined
import Derived.SevenTiedAt
import Derived.WalkKit
import Derived.ProofKit
import Derived.OpenShut
import Derived.ShutString
import Derived.ChangeOld
import Derived.Below
import Derived.Test.YtalkhkhnpplofaaDoorArg
import Derived.Lib.Hide
import Derived.Deep.RegionHeld3
import Derived.Deep.QuietTactic
import Derived.BigQuiet
import Derived.WalkSmall
import Derived.Outline
import Derived.IntWalk
import Derived.StillTailTactics
import Derived.Handy
import Derived.Deep.Cut
import Derived.Deep.OwnRows
import Derived.Deep.RegionWith
import Derived.WalkLawsBesides
import Derived.WalkSpells
import Derived.Test.YtalkhkhnpplofaaDoorMir2
namespace Go.Proofs.YtalkhkhnpplofaaDoor.imageMirror
open Go.ChangeShapes Go.WideShapes Go.ChangeAt Go.RowKit
open Go.ChangeMaps (open_string shut_string)
set_option linter.unusedSimpArgs false
set_option linter.unusedVariables false

theorem own : ownKnob Tryd.prog.godebug = none := by kernel_rfl
theorem laidOut : laidOutB Tryd.prog = true := by kernel_rfl

/-- what the listed variables hold when the call begins -/
abbrev laidL {H : Type} : List (String × DataW H) := [("backstep/isa.table", Rows.laid_backstep_isa_table)]
theorem gno0 : Tryd.prog.globalNamed "backstep/isa.table" = some 0 := by kernel_rfl
theorem gty0 : (Tryd.prog.globals[0]?).map (·.type) = some 80 := by kernel_rfl
theorem door_met (os : Os) (args : Array Value) : laidMetH Tryd.prog laidL ((World.doorLaid Tryd.prog 400 os).forCall (fun _ _ => 0) ⟨#[], args, []⟩).memory :=
  laidMetH_of_parts3 (fuel := 8) (laidMet_of_run' 8 (by kernel_rfl) (by kernel_rfl)) (by kernel_rfl) (by kernel_rfl)
abbrev MS (w : World) (xb g n : Nat) (a : Option Addr) (cap : Nat) (m s : Int) (l : List Ins) (w' : World) : Prop := (fun w' => w'.cell? ⟨w.heap.size, 0, none⟩ = some (.slice a n cap) ∧ w'.cell? ⟨w.heap.size, 1, none⟩ = some (.int .i64 m) ∧ w'.cell? ⟨w.heap.size, 2, none⟩ = some (.int .i64 s) ∧ w'.cell? ⟨xb, 0, none⟩ = some (.slice (some ⟨g, 0, none⟩) n n) ∧ w'.cell? ⟨xb, 1, none⟩ = some (.int .i64 m) ∧ w'.cell? ⟨xb, 2, none⟩ = some (.int .i64 s) ∧ Below w.heap.size w w' ∧ SliceC w' (some ⟨g, 0, none⟩) (invL l)) w'
theorem onM {w w1 w2 : World} {xb g n : Nat} {a : Option Addr} {cap : Nat} {m s : Int} {l : List Ins} (hg : Below w1.heap.size w1 w2) (h : (fun w' => w'.cell? ⟨w.heap.size, 0, none⟩ = some (.slice a n cap) ∧ w'.cell? ⟨w.heap.size, 1, none⟩ = some (.int .i64 m) ∧ w'.cell? ⟨w.heap.size, 2, none⟩ = some (.int .i64 s) ∧ w'.cell? ⟨xb, 0, none⟩ = some (.slice (some ⟨g, 0, none⟩) n n) ∧ w'.cell? ⟨xb, 1, none⟩ = some (.int .i64 m) ∧ w'.cell? ⟨xb, 2, none⟩ = some (.int .i64 s) ∧ Below w.heap.size w w' ∧ SliceC w' (some ⟨g, 0, none⟩) (invL l)) w1) : (fun w' => w'.cell? ⟨w.heap.size, 0, none⟩ = some (.slice a n cap) ∧ w'.cell? ⟨w.heap.size, 1, none⟩ = some (.int .i64 m) ∧ w'.cell? ⟨w.heap.size, 2, none⟩ = some (.int .i64 s) ∧ w'.cell? ⟨xb, 0, none⟩ = some (.slice (some ⟨g, 0, none⟩) n n) ∧ w'.cell? ⟨xb, 1, none⟩ = some (.int .i64 m) ∧ w'.cell? ⟨xb, 2, none⟩ = some (.int .i64 s) ∧ Below w.heap.size w w' ∧ SliceC w' (some ⟨g, 0, none⟩) (invL l)) w2 := by
  obtain ⟨h0, h1, h2, h3, h4, h5, hB, hS⟩ := h
  exact ⟨cell_on hg h0, cell_on hg h1, cell_on hg h2, cell_on hg h3, cell_on hg h4, cell_on hg h5, below_on hB hg, hS.below hg⟩
theorem onM_B {w w1 : World} {xb g n : Nat} {a : Option Addr} {cap : Nat} {m s : Int} {l : List Ins} (h : (fun w' => w'.cell? ⟨w.heap.size, 0, none⟩ = some (.slice a n cap) ∧ w'.cell? ⟨w.heap.size, 1, none⟩ = some (.int .i64 m) ∧ w'.cell? ⟨w.heap.size, 2, none⟩ = some (.int .i64 s) ∧ w'.cell? ⟨xb, 0, none⟩ = some (.slice (some ⟨g, 0, none⟩) n n) ∧ w'.cell? ⟨xb, 1, none⟩ = some (.int .i64 m) ∧ w'.cell? ⟨xb, 2, none⟩ = some (.int .i64 s) ∧ Below w.heap.size w w' ∧ SliceC w' (some ⟨g, 0, none⟩) (invL l)) w1) : Below w.heap.size w w1 := h.2.2.2.2.2.2.1
theorem onM_S {w w1 : World} {xb g n : Nat} {a : Option Addr} {cap : Nat} {m s : Int} {l : List Ins} (h : (fun w' => w'.cell? ⟨w.heap.size, 0, none⟩ = some (.slice a n cap) ∧ w'.cell? ⟨w.heap.size, 1, none⟩ = some (.int .i64 m) ∧ w'.cell? ⟨w.heap.size, 2, none⟩ = some (.int .i64 s) ∧ w'.cell? ⟨xb, 0, none⟩ = some (.slice (some ⟨g, 0, none⟩) n n) ∧ w'.cell? ⟨xb, 1, none⟩ = some (.int .i64 m) ∧ w'.cell? ⟨xb, 2, none⟩ = some (.int .i64 s) ∧ Below w.heap.size w w' ∧ SliceC w' (some ⟨g, 0, none⟩) (invL l)) w1) : SliceC w1 (some ⟨g, 0, none⟩) (invL l) := h.2.2.2.2.2.2.2

def Laid (W : World) : Prop := Go.Proofs.YtalkhkhnpplofaaDoor.Laid W
theorem of_laid {W : World} (h : laidMetH Tryd.prog laidL W) : Laid W := by
  rw [MakeChecks.laidMetH_plain _ _ _ (by kernel_rfl)] at h
  obtain ⟨ps, ⟨g0, t0, cs0, f0, p0, q0, hg0, ht0, hv0, hd0, _, _⟩, _, _⟩ := h
  obtain rfl := Option.some.inj (gno0.symm.trans hg0)
  obtain rfl := Option.some.inj (gty0.symm.trans ht0)
  intro n hn
  have hd : DataW.trod (fun _ : TypeId × Value => ()) Tryd.prog W 0 (fun _ => true) false f0 80 cs0.toList = some (Rows.laid_backstep_isa_table, p0) := hd0
  have hr := pair_at Tryd.underlying80 Tryd.underlying65 (by kernel_rfl) (by kernel_rfl) Tryd.underlying9 ⟨rfl, rfl⟩ ⟨rfl, rfl⟩ hd n _ _ (table_at n hn)
  rw [Array.getElem?_toList, Array.getElem?_toList] at hr
  exact ⟨(World.var?_cell hg0 hv0 (n * 2)).trans hr.1, (World.var?_cell hg0 hv0 (n * 2 + 1)).trans hr.2⟩

set_option maxRecDepth 100000 in
set_option maxHeartbeats 1000000 in
theorem walk (a : Option Addr) (n cap : Nat) (m s : Int) (l : List Ins) (w : World) (hn : l.length = n) (hb : n ≤ maxLen) (hS : SliceC w a l) (hw : WF l) (hL : Laid w) :
    Calls Tryd.prog 7 #[.agg #[.slice a n cap, .int .i64 m, .int .i64 s]] w fun e w' => e = .returned (.bool true) ∧ Below w.heap.size w w' := by
  have HS := Lib.hid hS
  have HL := Lib.hid hL
  have HN := Lib.hid hn
  have HB : Hid (Below w.heap.size w (w.alloc (.cells #[.slice a n cap, .int .i64 m, .int .i64 s] 24))) := Lib.hid ((Below.refl _ _).alloc (Nat.le_refl _) _)
  have c0 : (w.alloc (.cells #[.slice a n cap, .int .i64 m, .int .i64 s] 24)).cell? ⟨w.heap.size, 0, none⟩ = some (.slice a n cap) := by go_simp
  have c1 : (w.alloc (.cells #[.slice a n cap, .int .i64 m, .int .i64 s] 24)).cell? ⟨w.heap.size, 1, none⟩ = some (.int .i64 m) := by go_simp
  have c2 : (w.alloc (.cells #[.slice a n cap, .int .i64 m, .int .i64 s] 24)).cell? ⟨w.heap.size, 2, none⟩ = some (.int .i64 s) := by go_simp
  unfold maxLen at hb
  clear hS hL hn
  by_cases hg : (80 : Int) < (n : Int)
  · have HG := Lib.hid (decide_eq_true hg)
    go_enter Tryd.func7, Tryd.ntmps7
    go_wp2_with (first | (go_at_call 12; refine (awake_any _ (HL.out.below HB.out)).mono ?_; rintro e w1 ⟨rfl, hx⟩; replace HB := Lib.hid (below_on HB.out hx); replace c0 := cell_on hx c0; replace c1 := cell_on hx c1; replace c2 := cell_on hx c2; clear hx) | (go_at_call 13; refine (great_any _ _ _ _ _ _).mono ?_; rintro e w1 ⟨rfl, hx⟩; rw [HG.out]; replace HB := Lib.hid (below_on HB.out hx); replace c0 := cell_on hx c0; replace c1 := cell_on hx c1; replace c2 := cell_on hx c2; clear hx))
    go_ret
    exact ⟨rfl, HB.out⟩
  have HG := Lib.hid (decide_eq_false hg)
  by_cases hv : ckE l m s = 0
  case neg =>
    have HVB := Lib.hid (show (ckE l m s == 0) = false by simpa using hv)
    clear hv
    go_enter Tryd.func7, Tryd.ntmps7
    go_wp2_with (first | (go_at_call 12; refine (awake_any _ (HL.out.below HB.out)).mono ?_; rintro e w1 ⟨rfl, hx⟩; replace HB := Lib.hid (below_on HB.out hx); replace c0 := cell_on hx c0; replace c1 := cell_on hx c1; replace c2 := cell_on hx c2; clear hx) | (go_at_call 13; refine (great_any _ _ _ _ _ _).mono ?_; rintro e w1 ⟨rfl, hx⟩; rw [HG.out]; replace HB := Lib.hid (below_on HB.out hx); replace c0 := cell_on hx c0; replace c1 := cell_on hx c1; replace c2 := cell_on hx c2; clear hx) | (go_at_call 16; refine (valid_img _ n cap m s l _ (HS.out.below HB.out) HN.out hw (HL.out.below HB.out) (by omega)).mono ?_; rintro e w1 ⟨rfl, hx⟩; rw [HVB.out]; replace HB := Lib.hid (below_on HB.out hx); replace c0 := cell_on hx c0; replace c1 := cell_on hx c1; replace c2 := cell_on hx c2; clear hx))
    go_ret
    exact ⟨rfl, HB.out⟩
  have HVB := Lib.hid (show (ckE l m s == 0) = true by simpa using hv)
  have HE := Lib.hid hv
  have HR := Lib.hid (wd_ck.1 hv).1
  have HW := Lib.hid (wd_ck.1 hv).2
  clear hv
  have WI := Lib.hid (invL_wf hw)
  obtain ⟨N, hN⟩ : ∃ N, (pcs l n).length = N := ⟨_, rfl⟩
  have HPL := Lib.hid hN
  have HPL2 := Lib.hid (show (pcs (invL l) n).length = N by
    have := HW.out.procs (by have := HN.out; omega)
    rw [HN.out] at this
    rw [this]; exact hN)
  have tok16 : True := trivial
  clear hN
  go_enter Tryd.func7, Tryd.ntmps7
  go_upto_region 7 with (first | (go_at_call 12; refine (awake_any _ (HL.out.below HB.out)).mono ?_; rintro e w1 ⟨rfl, hx⟩; replace HB := Lib.hid (below_on HB.out hx); replace c0 := cell_on hx c0; replace c1 := cell_on hx c1; replace c2 := cell_on hx c2; clear hx) | (go_at_call 13; refine (great_any _ _ _ _ _ _).mono ?_; rintro e w1 ⟨rfl, hx⟩; rw [HG.out]; replace HB := Lib.hid (below_on HB.out hx); replace c0 := cell_on hx c0; replace c1 := cell_on hx c1; replace c2 := cell_on hx c2; clear hx) | (go_at_call 16; have _t := tok16; refine (valid_img _ n cap m s l _ (HS.out.below HB.out) HN.out hw (HL.out.below HB.out) (by omega)).mono ?_; rintro e w1 ⟨rfl, hx⟩; rw [HVB.out]; replace HB := Lib.hid (below_on HB.out hx); replace c0 := cell_on hx c0; replace c1 := cell_on hx c1; replace c2 := cell_on hx c2; clear hx tok16 _t) | (go_at_call 21; refine (invert_ok _ n cap m s l _ (HS.out.below HB.out) HN.out hw (HL.out.below HB.out) (by omega) HE.out).mono ?_; rintro e w2 ⟨g, rfl, hsx, hx⟩; replace HB := Lib.hid (below_on HB.out hx); replace c0 := cell_on hx c0; replace c1 := cell_on hx c1; replace c2 := cell_on hx c2; replace HB := Lib.hid (below_on HB.out (below_new w2 (.cells #[.slice (some ⟨g, 0, none⟩) n n, .int .i64 m, .int .i64 s] 24))); replace c0 := cell_on (below_new w2 (.cells #[.slice (some ⟨g, 0, none⟩) n n, .int .i64 m, .int .i64 s] 24)) c0; replace c1 := cell_on (below_new w2 (.cells #[.slice (some ⟨g, 0, none⟩) n n, .int .i64 m, .int .i64 s] 24)) c1; replace c2 := cell_on (below_new w2 (.cells #[.slice (some ⟨g, 0, none⟩) n n, .int .i64 m, .int .i64 s] 24)) c2; have x0 : (w2.alloc (.cells #[.slice (some ⟨g, 0, none⟩) n n, .int .i64 m, .int .i64 s] 24)).cell? ⟨w2.heap.size, 0, none⟩ = some (.slice (some ⟨g, 0, none⟩) n n) := (by go_simp); have x1 : (w2.alloc (.cells #[.slice (some ⟨g, 0, none⟩) n n, .int .i64 m, .int .i64 s] 24)).cell? ⟨w2.heap.size, 1, none⟩ = some (.int .i64 m) := (by go_simp); have x2 : (w2.alloc (.cells #[.slice (some ⟨g, 0, none⟩) n n, .int .i64 m, .int .i64 s] 24)).cell? ⟨w2.heap.size, 2, none⟩ = some (.int .i64 s) := (by go_simp); have SX := Lib.hid (hsx.below (below_new w2 (.cells #[.slice (some ⟨g, 0, none⟩) n n, .int .i64 m, .int .i64 s] 24))); clear hx hsx))
  have hxb0 := World.block_lt_of_cell? _ _ x0
  obtain ⟨xb, hxb⟩ : ∃ xb, xb = w2.heap.size := ⟨_, rfl⟩
  rw [← hxb] at x0 x1 x2
  rw [← hxb]
  generalize w2.alloc (.cells #[.slice (some ⟨g, 0, none⟩) n n, .int .i64 m, .int .i64 s] 24) = w9 at *
  clear hxb
  have HMS : MS w xb g n a cap m s l w9 := ⟨c0, c1, c2, x0, x1, x2, HB.out, SX.out⟩
  have HMD := HMS
  replace HMS := onM (below_drewN (n := 1) (Below.refl _ _)) HMS
  clear c0 c1 c2 x0 x1 x2 HB SX
  go_region_held3 (fun w' => w'.cell? ⟨w.heap.size, 0, none⟩ = some (.slice a n cap) ∧ w'.cell? ⟨w.heap.size, 1, none⟩ = some (.int .i64 m) ∧ w'.cell? ⟨w.heap.size, 2, none⟩ = some (.int .i64 s) ∧ w'.cell? ⟨xb, 0, none⟩ = some (.slice (some ⟨g, 0, none⟩) n n) ∧ w'.cell? ⟨xb, 1, none⟩ = some (.int .i64 m) ∧ w'.cell? ⟨xb, 2, none⟩ = some (.int .i64 s) ∧ Below w.heap.size w w' ∧ SliceC w' (some ⟨g, 0, none⟩) (invL l)) (first | exact HMS | exact HX | assumption)
    (first | (go_at_call 19; ((with_reducible refine (procs_any _ n n m s (invL l) _ (onM_S (by assumption)) (by rw [invL_len]; exact HN.out) (by omega)).mono ?_); rintro e w3 ⟨v, rfl, ho, hg⟩; obtain ⟨ap, cp, rfl, hsn⟩ := own_slice ho; rw [HPL2.out]; have HX := onM hg (by assumption); clear ho hsn)) | (go_at_call 19; ((with_reducible refine (procs_any _ n cap m s l _ (HS.out.below (onM_B (by assumption))) HN.out (by omega)).mono ?_); rintro e w3 ⟨v, rfl, ho, hg⟩; obtain ⟨ap2, cp2, rfl, hsn⟩ := own_slice ho; rw [HPL.out]; have HX2 := onM hg HX; clear ho hsn)))
  obtain ⟨c0, c1, c2, x0, x1, x2, hB, hS⟩ := HX2
  have HB := Lib.hid hB
  have SX := Lib.hid hS
  clear HX HMS HMD hB hS
  go_wp2
  have HC := Lib.hid (And.intro c0 (And.intro c1 c2))
  have HXX := Lib.hid (And.intro x0 (And.intro x1 x2))
  clear c0 c1 c2 x0 x1 x2
  go_loopw [53] (fun x53 wr => ∃ j : Nat, j ≤ n ∧ x53 = .int .i64 j ∧ Hid (Below w.heap.size w wr) ∧ Hid (wr.cell? ⟨w.heap.size, 0, none⟩ = some (.slice a n cap) ∧ wr.cell? ⟨w.heap.size, 1, none⟩ = some (.int .i64 m) ∧ wr.cell? ⟨w.heap.size, 2, none⟩ = some (.int .i64 s)) ∧ Hid (wr.cell? ⟨xb, 0, none⟩ = some (.slice (some ⟨g, 0, none⟩) n n) ∧ wr.cell? ⟨xb, 1, none⟩ = some (.int .i64 m) ∧ wr.cell? ⟨xb, 2, none⟩ = some (.int .i64 s)) ∧ Hid (SliceC wr (some ⟨g, 0, none⟩) (invL l))) (fun x53 _ => n - (intOf x53).toNat)
  case atStart => exact ⟨0, by omega, rfl, HB, HC, HXX, SX⟩
  case round =>
    clear HB HC HXX SX
    obtain ⟨j, hj, rfl, HB, HC, HXX, SX⟩ := hrel
    by_cases hjn : j < n
    · have hdl : (j : Int) < (n : Int) := by omega
      obtain ⟨r, hr⟩ : ∃ r : Nat, n = r + j + 1 := ⟨n - 1 - j, by omega⟩
      have hnr : (n : Int) - 1 - (j : Int) = (r : Int) := by omega
      have hrn : (r : Int) < (n : Int) := by omega
      have hrn' : r < n := by omega
      have HRK := Lib.hid hr
      clear hr
      obtain ⟨x, hx⟩ : ∃ x, l[j]? = some x := ⟨_, List.getElem?_eq_getElem (by have := HN.out; omega)⟩
      have hia := invL_at hx
      rw [show l.length - 1 - j = r by have := HN.out; have := HRK.out; omega] at hia
      obtain ⟨b, o, rfl, hbl, d0, d1, d2, d3, d4⟩ := (HS.out.below HB.out).at hx
      have hkk := hw.at hx
      have hik := inv_range _ hkk
      obtain ⟨y, hy⟩ : ∃ y, invI l x = y := ⟨_, rfl⟩
      have hyk : 0 ≤ y.k ∧ y.k ≤ 255 := by rw [← hy]; exact hik
      have hty : tb y.k = tb x.k := by rw [← hy]; exact inv_tb _
      rw [hy] at hia
      obtain ⟨b', o', e', hgl, y0, y1, y2, y3, y4⟩ := SX.out.at hia
      cases e'
      rw [Nat.zero_add] at y0 y1 y2 y3 y4
      have HY := Lib.hid hy
      have bn := below_new wr (.cells #[.int .u8 x.k, .int .i64 x.a, .int .i64 x.b, .int .i64 x.c, .int .i64 x.d] 39)
      replace HB := Lib.hid (below_on HB.out bn)
      replace SX := Lib.hid (SX.out.below bn)
      replace y0 := cell_on bn y0
      replace y1 := cell_on bn y1
      replace y2 := cell_on bn y2
      replace y3 := cell_on bn y3
      replace y4 := cell_on bn y4
      obtain ⟨c0, c1, c2⟩ := HC.out
      obtain ⟨x0, x1, x2⟩ := HXX.out
      replace c0 := cell_on bn c0
      replace c1 := cell_on bn c1
      replace c2 := cell_on bn c2
      replace x0 := cell_on bn x0
      replace x1 := cell_on bn x1
      replace x2 := cell_on bn x2
      have q0 : (wr.alloc (.cells #[.int .u8 x.k, .int .i64 x.a, .int .i64 x.b, .int .i64 x.c, .int .i64 x.d] 39)).cell? ⟨wr.heap.size, 0, none⟩ = some (.int .u8 x.k) := by go_simp
      have q1 : (wr.alloc (.cells #[.int .u8 x.k, .int .i64 x.a, .int .i64 x.b, .int .i64 x.c, .int .i64 x.d] 39)).cell? ⟨wr.heap.size, 1, none⟩ = some (.int .i64 x.a) := by go_simp
      have q2 : (wr.alloc (.cells #[.int .u8 x.k, .int .i64 x.a, .int .i64 x.b, .int .i64 x.c, .int .i64 x.d] 39)).cell? ⟨wr.heap.size, 2, none⟩ = some (.int .i64 x.b) := by go_simp
      have q3 : (wr.alloc (.cells #[.int .u8 x.k, .int .i64 x.a, .int .i64 x.b, .int .i64 x.c, .int .i64 x.d] 39)).cell? ⟨wr.heap.size, 3, none⟩ = some (.int .i64 x.c) := by go_simp
      have q4 : (wr.alloc (.cells #[.int .u8 x.k, .int .i64 x.a, .int .i64 x.b, .int .i64 x.c, .int .i64 x.d] 39)).cell? ⟨wr.heap.size, 4, none⟩ = some (.int .i64 x.d) := by go_simp
      clear HC HXX bn hx hia hy
      cases ht : tb x.k
      · have HT := Lib.hid (hty.trans ht)
        have HEQ := Lib.hid ((mir_no ht).trans HY.out)
        clear ht hty
        go_upto_region 16 with (first | (go_at_call 24; refine (inverse_any _ _ _ _ _ _).mono ?_; rintro e w1 ⟨rfl, hx⟩; replace HB := Lib.hid (below_on HB.out hx); replace c0 := cell_on hx c0; replace c1 := cell_on hx c1; replace c2 := cell_on hx c2; replace x0 := cell_on hx x0; replace x1 := cell_on hx x1; replace x2 := cell_on hx x2; replace y0 := cell_on hx y0; replace y1 := cell_on hx y1; replace y2 := cell_on hx y2; replace y3 := cell_on hx y3; replace y4 := cell_on hx y4; replace SX := Lib.hid (SX.out.below hx); have HW1 := Lib.hid (And.intro (And.intro c0 (And.intro c1 c2)) (And.intro (And.intro x0 (And.intro x1 x2)) (And.intro y0 (And.intro y1 (And.intro y2 (And.intro y3 y4)))))); have HB1 := HB; have HD := Lib.hid (below_new w1 (.cells #[.int .u8 (invO x.k), .int .i64 x.a, .int .i64 x.b, .int .i64 x.c, .int .i64 x.d] 39)); replace HB := Lib.hid (below_on HB.out (below_new w1 (.cells #[.int .u8 (invO x.k), .int .i64 x.a, .int .i64 x.b, .int .i64 x.c, .int .i64 x.d] 39))); replace y0 := cell_on (below_new w1 (.cells #[.int .u8 (invO x.k), .int .i64 x.a, .int .i64 x.b, .int .i64 x.c, .int .i64 x.d] 39)) y0; replace y1 := cell_on (below_new w1 (.cells #[.int .u8 (invO x.k), .int .i64 x.a, .int .i64 x.b, .int .i64 x.c, .int .i64 x.d] 39)) y1; replace y2 := cell_on (below_new w1 (.cells #[.int .u8 (invO x.k), .int .i64 x.a, .int .i64 x.b, .int .i64 x.c, .int .i64 x.d] 39)) y2; replace y3 := cell_on (below_new w1 (.cells #[.int .u8 (invO x.k), .int .i64 x.a, .int .i64 x.b, .int .i64 x.c, .int .i64 x.d] 39)) y3; replace y4 := cell_on (below_new w1 (.cells #[.int .u8 (invO x.k), .int .i64 x.a, .int .i64 x.b, .int .i64 x.c, .int .i64 x.d] 39)) y4; have e0 : (w1.alloc (.cells #[.int .u8 (invO x.k), .int .i64 x.a, .int .i64 x.b, .int .i64 x.c, .int .i64 x.d] 39)).cell? ⟨w1.heap.size, 0, none⟩ = some (.int .u8 (invO x.k)) := (by go_simp); have f0 : (w1.alloc (.cells #[.int .u8 (invO x.k), .int .i64 x.a, .int .i64 x.b, .int .i64 x.c, .int .i64 x.d] 39)).frozen? ⟨w1.heap.size, 0, none⟩ = false := (by go_simp); have e1 : (w1.alloc (.cells #[.int .u8 (invO x.k), .int .i64 x.a, .int .i64 x.b, .int .i64 x.c, .int .i64 x.d] 39)).cell? ⟨w1.heap.size, 1, none⟩ = some (.int .i64 x.a) := (by go_simp); have f1 : (w1.alloc (.cells #[.int .u8 (invO x.k), .int .i64 x.a, .int .i64 x.b, .int .i64 x.c, .int .i64 x.d] 39)).frozen? ⟨w1.heap.size, 1, none⟩ = false := (by go_simp); have e2 : (w1.alloc (.cells #[.int .u8 (invO x.k), .int .i64 x.a, .int .i64 x.b, .int .i64 x.c, .int .i64 x.d] 39)).cell? ⟨w1.heap.size, 2, none⟩ = some (.int .i64 x.b) := (by go_simp); have f2 : (w1.alloc (.cells #[.int .u8 (invO x.k), .int .i64 x.a, .int .i64 x.b, .int .i64 x.c, .int .i64 x.d] 39)).frozen? ⟨w1.heap.size, 2, none⟩ = false := (by go_simp); have e3 : (w1.alloc (.cells #[.int .u8 (invO x.k), .int .i64 x.a, .int .i64 x.b, .int .i64 x.c, .int .i64 x.d] 39)).cell? ⟨w1.heap.size, 3, none⟩ = some (.int .i64 x.c) := (by go_simp); have f3 : (w1.alloc (.cells #[.int .u8 (invO x.k), .int .i64 x.a, .int .i64 x.b, .int .i64 x.c, .int .i64 x.d] 39)).frozen? ⟨w1.heap.size, 3, none⟩ = false := (by go_simp); have e4 : (w1.alloc (.cells #[.int .u8 (invO x.k), .int .i64 x.a, .int .i64 x.b, .int .i64 x.c, .int .i64 x.d] 39)).cell? ⟨w1.heap.size, 4, none⟩ = some (.int .i64 x.d) := (by go_simp); have f4 : (w1.alloc (.cells #[.int .u8 (invO x.k), .int .i64 x.a, .int .i64 x.b, .int .i64 x.c, .int .i64 x.d] 39)).frozen? ⟨w1.heap.size, 4, none⟩ = false := (by go_simp); replace x0 := cell_on (below_new w1 (.cells #[.int .u8 (invO x.k), .int .i64 x.a, .int .i64 x.b, .int .i64 x.c, .int .i64 x.d] 39)) x0; clear hx c0 c1 c2 x1 x2) | (go_at_call 25; refine (target_any y.k y.a y.b y.c y.d _ hyk (HL.out.below HB.out)).mono ?_; rintro e w3 ⟨rfl, hx⟩; rw [HT.out]; replace HB := Lib.hid (below_on HB.out hx); replace HD := Lib.hid (below_on HD.out hx); replace y0 := cell_on hx y0; replace y1 := cell_on hx y1; replace y2 := cell_on hx y2; replace y3 := cell_on hx y3; replace y4 := cell_on hx y4; replace f0 := frozen_on hx e0 f0; replace e0 := cell_on hx e0; replace f1 := frozen_on hx e1 f1; replace e1 := cell_on hx e1; replace f2 := frozen_on hx e2 f2; replace e2 := cell_on hx e2; replace f3 := frozen_on hx e3 f3; replace e3 := cell_on hx e3; replace f4 := frozen_on hx e4 f4; replace e4 := cell_on hx e4; clear hx))
        obtain ⟨⟨c0, c1, c2⟩, ⟨x0, x1, x2⟩, _⟩ := HW1.out
        replace c0 := cell_on HD.out c0
        replace c1 := cell_on HD.out c1
        replace c2 := cell_on HD.out c2
        replace x0 := cell_on HD.out x0
        replace x1 := cell_on HD.out x1
        replace x2 := cell_on HD.out x2
        have hne := fun w => neq_ins y ⟨invO x.k, x.a, x.b, x.c, x.d⟩ w
        rw [decide_eq_true HEQ.out.symm] at hne
        simp only [Bool.not_true] at hne
        replace SX := Lib.hid (SX.out.below HD.out)
        clear HEQ HT f0 f1 f2 f3 f4
        go_quiet (fail)
        have tokP : True := trivial
        cases hp : part l (j : Int) with
        | none =>
          have HP1 := Lib.hid hp
          have HP2 := Lib.hid (show part (invL l) (r : Int) = none by
            have := HW.out.part_none (by have := HN.out; omega) (by have := HN.out; omega) hp
            rw [show l.length - 1 - j = r by have := HN.out; have := HRK.out; omega] at this
            exact this)
          clear hp
          go_wp2_with (first | (go_at_call 17; have _t := tokP; refine (partner_any _ n cap l m s j _ (HS.out.below (below_drewN HB.out)) HN.out hw (HL.out.below (below_drewN HB.out))).mono ?_; rintro e w5 ⟨rfl, hx⟩; rw [HP1.out]; replace HB := Lib.hid (below_on (below_drewN HB.out) hx); replace c0 := cell_on hx c0; replace c1 := cell_on hx c1; replace c2 := cell_on hx c2; replace x0 := cell_on hx x0; replace x1 := cell_on hx x1; replace x2 := cell_on hx x2; replace SX := Lib.hid (SX.out.below (below_on (below_drewN (Below.refl _ _)) hx)); clear hx tokP _t) | (go_at_call 17; refine (partner_any _ n n (invL l) m s r _ SX.out (by rw [invL_len]; exact HN.out) WI.out (HL.out.below HB.out)).mono ?_; rintro e w5 ⟨rfl, hx⟩; rw [HP2.out]; replace HB := Lib.hid (below_on HB.out hx); replace c0 := cell_on hx c0; replace c1 := cell_on hx c1; replace c2 := cell_on hx c2; replace x0 := cell_on hx x0; replace x1 := cell_on hx x1; replace x2 := cell_on hx x2; replace SX := Lib.hid (SX.out.below hx); clear hx))
          go_roundw
          case rel => exact ⟨j + 1, by omega, by go_num, HB, Lib.hid ⟨c0, c1, c2⟩, Lib.hid ⟨x0, x1, x2⟩, SX⟩
          case measure => simp [intOf]; omega
        | some t2 =>
          obtain ⟨q, rfl, hq⟩ := (part_iff l j t2).1 hp
          have HP1 := Lib.hid hp
          obtain ⟨q2, hq2⟩ : ∃ q2 : Nat, n = q2 + q + 1 := ⟨n - 1 - q, by have := hq.lt.2; have := HN.out; omega⟩
          have hq3 : (n : Int) - 1 - (q : Int) = (q2 : Int) := by omega
          have HP2 := Lib.hid (show part (invL l) (r : Int) = some (q2 : Int) by
            have := HW.out.part_some (by have := HN.out; omega) hq
            rw [show l.length - 1 - j = r by have := HN.out; have := HRK.out; omega, show l.length - 1 - q = q2 by have := HN.out; omega] at this
            exact this)
          have HQ2 := Lib.hid hq2
          clear hp hq hq2
          go_wp2_with (first | (go_at_call 17; have _t := tokP; refine (partner_any _ n cap l m s j _ (HS.out.below (below_drewN HB.out)) HN.out hw (HL.out.below (below_drewN HB.out))).mono ?_; rintro e w5 ⟨rfl, hx⟩; rw [HP1.out]; replace HB := Lib.hid (below_on (below_drewN HB.out) hx); replace c0 := cell_on hx c0; replace c1 := cell_on hx c1; replace c2 := cell_on hx c2; replace x0 := cell_on hx x0; replace x1 := cell_on hx x1; replace x2 := cell_on hx x2; replace SX := Lib.hid (SX.out.below (below_on (below_drewN (Below.refl _ _)) hx)); clear hx tokP _t) | (go_at_call 17; refine (partner_any _ n n (invL l) m s r _ SX.out (by rw [invL_len]; exact HN.out) WI.out (HL.out.below HB.out)).mono ?_; rintro e w5 ⟨rfl, hx⟩; rw [HP2.out]; replace HB := Lib.hid (below_on HB.out hx); replace c0 := cell_on hx c0; replace c1 := cell_on hx c1; replace c2 := cell_on hx c2; replace x0 := cell_on hx x0; replace x1 := cell_on hx x1; replace x2 := cell_on hx x2; replace SX := Lib.hid (SX.out.below hx); clear hx))
          go_roundw
          case rel => exact ⟨j + 1, by omega, by go_num, HB, Lib.hid ⟨c0, c1, c2⟩, Lib.hid ⟨x0, x1, x2⟩, SX⟩
          case measure => simp [intOf]; omega
      · have HT := Lib.hid (hty.trans ht)
        obtain ⟨t, htv⟩ : ∃ t, tv y.k y.a y.b = t := ⟨_, rfl⟩
        have HTV := Lib.hid htv
        have HEQ := Lib.hid (show Ins.mk (invO x.k) (rta (invO x.k) x.a t) (rtb (invO x.k) x.b t) x.c x.d = y by
          have := mir_yes (l := l) ht
          rw [HY.out, HTV.out] at this
          exact this)
        clear ht hty htv
        go_upto_region 16 with (first | (go_at_call 24; refine (inverse_any _ _ _ _ _ _).mono ?_; rintro e w1 ⟨rfl, hx⟩; replace HB := Lib.hid (below_on HB.out hx); replace c0 := cell_on hx c0; replace c1 := cell_on hx c1; replace c2 := cell_on hx c2; replace x0 := cell_on hx x0; replace x1 := cell_on hx x1; replace x2 := cell_on hx x2; replace y0 := cell_on hx y0; replace y1 := cell_on hx y1; replace y2 := cell_on hx y2; replace y3 := cell_on hx y3; replace y4 := cell_on hx y4; replace SX := Lib.hid (SX.out.below hx); have HW1 := Lib.hid (And.intro (And.intro c0 (And.intro c1 c2)) (And.intro (And.intro x0 (And.intro x1 x2)) (And.intro y0 (And.intro y1 (And.intro y2 (And.intro y3 y4)))))); have HB1 := HB; have HD := Lib.hid (below_new w1 (.cells #[.int .u8 (invO x.k), .int .i64 x.a, .int .i64 x.b, .int .i64 x.c, .int .i64 x.d] 39)); replace HB := Lib.hid (below_on HB.out (below_new w1 (.cells #[.int .u8 (invO x.k), .int .i64 x.a, .int .i64 x.b, .int .i64 x.c, .int .i64 x.d] 39))); replace y0 := cell_on (below_new w1 (.cells #[.int .u8 (invO x.k), .int .i64 x.a, .int .i64 x.b, .int .i64 x.c, .int .i64 x.d] 39)) y0; replace y1 := cell_on (below_new w1 (.cells #[.int .u8 (invO x.k), .int .i64 x.a, .int .i64 x.b, .int .i64 x.c, .int .i64 x.d] 39)) y1; replace y2 := cell_on (below_new w1 (.cells #[.int .u8 (invO x.k), .int .i64 x.a, .int .i64 x.b, .int .i64 x.c, .int .i64 x.d] 39)) y2; replace y3 := cell_on (below_new w1 (.cells #[.int .u8 (invO x.k), .int .i64 x.a, .int .i64 x.b, .int .i64 x.c, .int .i64 x.d] 39)) y3; replace y4 := cell_on (below_new w1 (.cells #[.int .u8 (invO x.k), .int .i64 x.a, .int .i64 x.b, .int .i64 x.c, .int .i64 x.d] 39)) y4; have e0 : (w1.alloc (.cells #[.int .u8 (invO x.k), .int .i64 x.a, .int .i64 x.b, .int .i64 x.c, .int .i64 x.d] 39)).cell? ⟨w1.heap.size, 0, none⟩ = some (.int .u8 (invO x.k)) := (by go_simp); have f0 : (w1.alloc (.cells #[.int .u8 (invO x.k), .int .i64 x.a, .int .i64 x.b, .int .i64 x.c, .int .i64 x.d] 39)).frozen? ⟨w1.heap.size, 0, none⟩ = false := (by go_simp); have e1 : (w1.alloc (.cells #[.int .u8 (invO x.k), .int .i64 x.a, .int .i64 x.b, .int .i64 x.c, .int .i64 x.d] 39)).cell? ⟨w1.heap.size, 1, none⟩ = some (.int .i64 x.a) := (by go_simp); have f1 : (w1.alloc (.cells #[.int .u8 (invO x.k), .int .i64 x.a, .int .i64 x.b, .int .i64 x.c, .int .i64 x.d] 39)).frozen? ⟨w1.heap.size, 1, none⟩ = false := (by go_simp); have e2 : (w1.alloc (.cells #[.int .u8 (invO x.k), .int .i64 x.a, .int .i64 x.b, .int .i64 x.c, .int .i64 x.d] 39)).cell? ⟨w1.heap.size, 2, none⟩ = some (.int .i64 x.b) := (by go_simp); have f2 : (w1.alloc (.cells #[.int .u8 (invO x.k), .int .i64 x.a, .int .i64 x.b, .int .i64 x.c, .int .i64 x.d] 39)).frozen? ⟨w1.heap.size, 2, none⟩ = false := (by go_simp); have e3 : (w1.alloc (.cells #[.int .u8 (invO x.k), .int .i64 x.a, .int .i64 x.b, .int .i64 x.c, .int .i64 x.d] 39)).cell? ⟨w1.heap.size, 3, none⟩ = some (.int .i64 x.c) := (by go_simp); have f3 : (w1.alloc (.cells #[.int .u8 (invO x.k), .int .i64 x.a, .int .i64 x.b, .int .i64 x.c, .int .i64 x.d] 39)).frozen? ⟨w1.heap.size, 3, none⟩ = false := (by go_simp); have e4 : (w1.alloc (.cells #[.int .u8 (invO x.k), .int .i64 x.a, .int .i64 x.b, .int .i64 x.c, .int .i64 x.d] 39)).cell? ⟨w1.heap.size, 4, none⟩ = some (.int .i64 x.d) := (by go_simp); have f4 : (w1.alloc (.cells #[.int .u8 (invO x.k), .int .i64 x.a, .int .i64 x.b, .int .i64 x.c, .int .i64 x.d] 39)).frozen? ⟨w1.heap.size, 4, none⟩ = false := (by go_simp); replace x0 := cell_on (below_new w1 (.cells #[.int .u8 (invO x.k), .int .i64 x.a, .int .i64 x.b, .int .i64 x.c, .int .i64 x.d] 39)) x0; clear hx c0 c1 c2 x1 x2) | (go_at_call 25; refine (target_any y.k y.a y.b y.c y.d _ hyk (HL.out.below HB.out)).mono ?_; rintro e w3 ⟨rfl, hx⟩; rw [HT.out, HTV.out]; replace HB := Lib.hid (below_on HB.out hx); replace HD := Lib.hid (below_on HD.out hx); replace y0 := cell_on hx y0; replace y1 := cell_on hx y1; replace y2 := cell_on hx y2; replace y3 := cell_on hx y3; replace y4 := cell_on hx y4; replace f0 := frozen_on hx e0 f0; replace e0 := cell_on hx e0; replace f1 := frozen_on hx e1 f1; replace e1 := cell_on hx e1; replace f2 := frozen_on hx e2 f2; replace e2 := cell_on hx e2; replace f3 := frozen_on hx e3 f3; replace e3 := cell_on hx e3; replace f4 := frozen_on hx e4 f4; replace e4 := cell_on hx e4; clear hx) | (go_at_call 26; refine (retarget_any (invO x.k) x.a x.b x.c x.d t _ hik (HL.out.below HB.out)).mono ?_; rintro e w4 ⟨rfl, hx⟩; replace HB := Lib.hid (below_on HB.out hx); replace HD := Lib.hid (below_on HD.out hx); replace y0 := cell_on hx y0; replace y1 := cell_on hx y1; replace y2 := cell_on hx y2; replace y3 := cell_on hx y3; replace y4 := cell_on hx y4; replace f0 := frozen_on hx e0 f0; replace e0 := cell_on hx e0; replace f1 := frozen_on hx e1 f1; replace e1 := cell_on hx e1; replace f2 := frozen_on hx e2 f2; replace e2 := cell_on hx e2; replace f3 := frozen_on hx e3 f3; replace e3 := cell_on hx e3; replace f4 := frozen_on hx e4 f4; replace e4 := cell_on hx e4; clear hx))
        have Hch := Lib.hid (set5b w1 w4 w1.heap.size HD.out (Nat.le_refl _) (.int .u8 (invO x.k)) (.int .i64 (rta (invO x.k) x.a t)) (.int .i64 (rtb (invO x.k) x.b t)) (.int .i64 x.c) (.int .i64 x.d))
        have R := set5 w4 w1.heap.size (.int .u8 (invO x.k)) (.int .i64 (rta (invO x.k) x.a t)) (.int .i64 (rtb (invO x.k) x.b t)) (.int .i64 x.c) (.int .i64 x.d) _ _ _ _ _ e0 e1 e2 e3 e4
        have z0 := R 0 _ rfl
        have z1 := R 1 _ rfl
        have z2 := R 2 _ rfl
        have z3 := R 3 _ rfl
        have z4 := R 4 _ rfl
        clear R e0 e1 e2 e3 e4 f0 f1 f2 f3 f4 y0 y1 y2 y3 y4 x0 HB HD
        generalize (((((w4.setCell ⟨w1.heap.size, 0, none⟩ (.int .u8 (invO x.k))).setCell ⟨w1.heap.size, 1, none⟩ (.int .i64 (rta (invO x.k) x.a t))).setCell ⟨w1.heap.size, 2, none⟩ (.int .i64 (rtb (invO x.k) x.b t))).setCell ⟨w1.heap.size, 3, none⟩ (.int .i64 x.c)).setCell ⟨w1.heap.size, 4, none⟩ (.int .i64 x.d)) = w6 at *
        obtain ⟨⟨c0, c1, c2⟩, ⟨x0, x1, x2⟩, y0, y1, y2, y3, y4⟩ := HW1.out
        replace c0 := cell_on Hch.out c0
        replace c1 := cell_on Hch.out c1
        replace c2 := cell_on Hch.out c2
        replace x0 := cell_on Hch.out x0
        replace x1 := cell_on Hch.out x1
        replace x2 := cell_on Hch.out x2
        replace y0 := cell_on Hch.out y0
        replace y1 := cell_on Hch.out y1
        replace y2 := cell_on Hch.out y2
        replace y3 := cell_on Hch.out y3
        replace y4 := cell_on Hch.out y4
        have HB := Lib.hid (below_on HB1.out Hch.out)
        have hne := fun w => neq_ins y ⟨invO x.k, rta (invO x.k) x.a t, rtb (invO x.k) x.b t, x.c, x.d⟩ w
        rw [decide_eq_true HEQ.out.symm] at hne
        simp only [Bool.not_true] at hne
        replace SX := Lib.hid (SX.out.below Hch.out)
        clear HEQ HT HTV
        go_quiet (fail)
        have tokP : True := trivial
        cases hp : part l (j : Int) with
        | none =>
          have HP1 := Lib.hid hp
          have HP2 := Lib.hid (show part (invL l) (r : Int) = none by
            have := HW.out.part_none (by have := HN.out; omega) (by have := HN.out; omega) hp
            rw [show l.length - 1 - j = r by have := HN.out; have := HRK.out; omega] at this
            exact this)
          clear hp
          go_wp2_with (first | (go_at_call 17; have _t := tokP; refine (partner_any _ n cap l m s j _ (HS.out.below (below_drewN HB.out)) HN.out hw (HL.out.below (below_drewN HB.out))).mono ?_; rintro e w5 ⟨rfl, hx⟩; rw [HP1.out]; replace HB := Lib.hid (below_on (below_drewN HB.out) hx); replace c0 := cell_on hx c0; replace c1 := cell_on hx c1; replace c2 := cell_on hx c2; replace x0 := cell_on hx x0; replace x1 := cell_on hx x1; replace x2 := cell_on hx x2; replace SX := Lib.hid (SX.out.below (below_on (below_drewN (Below.refl _ _)) hx)); clear hx tokP _t) | (go_at_call 17; refine (partner_any _ n n (invL l) m s r _ SX.out (by rw [invL_len]; exact HN.out) WI.out (HL.out.below HB.out)).mono ?_; rintro e w5 ⟨rfl, hx⟩; rw [HP2.out]; replace HB := Lib.hid (below_on HB.out hx); replace c0 := cell_on hx c0; replace c1 := cell_on hx c1; replace c2 := cell_on hx c2; replace x0 := cell_on hx x0; replace x1 := cell_on hx x1; replace x2 := cell_on hx x2; replace SX := Lib.hid (SX.out.below hx); clear hx))
          go_roundw
          case rel => exact ⟨j + 1, by omega, by go_num, HB, Lib.hid ⟨c0, c1, c2⟩, Lib.hid ⟨x0, x1, x2⟩, SX⟩
          case measure => simp [intOf]; omega
        | some t2 =>
          obtain ⟨q, rfl, hq⟩ := (part_iff l j t2).1 hp
          have HP1 := Lib.hid hp
          obtain ⟨q2, hq2⟩ : ∃ q2 : Nat, n = q2 + q + 1 := ⟨n - 1 - q, by have := hq.lt.2; have := HN.out; omega⟩
          have hq3 : (n : Int) - 1 - (q : Int) = (q2 : Int) := by omega
          have HP2 := Lib.hid (show part (invL l) (r : Int) = some (q2 : Int) by
            have := HW.out.part_some (by have := HN.out; omega) hq
            rw [show l.length - 1 - j = r by have := HN.out; have := HRK.out; omega, show l.length - 1 - q = q2 by have := HN.out; omega] at this
            exact this)
          have HQ2 := Lib.hid hq2
          clear hp hq hq2
          go_wp2_with (first | (go_at_call 17; have _t := tokP; refine (partner_any _ n cap l m s j _ (HS.out.below (below_drewN HB.out)) HN.out hw (HL.out.below (below_drewN HB.out))).mono ?_; rintro e w5 ⟨rfl, hx⟩; rw [HP1.out]; replace HB := Lib.hid (below_on (below_drewN HB.out) hx); replace c0 := cell_on hx c0; replace c1 := cell_on hx c1; replace c2 := cell_on hx c2; replace x0 := cell_on hx x0; replace x1 := cell_on hx x1; replace x2 := cell_on hx x2; replace SX := Lib.hid (SX.out.below (below_on (below_drewN (Below.refl _ _)) hx)); clear hx tokP _t) | (go_at_call 17; refine (partner_any _ n n (invL l) m s r _ SX.out (by rw [invL_len]; exact HN.out) WI.out (HL.out.below HB.out)).mono ?_; rintro e w5 ⟨rfl, hx⟩; rw [HP2.out]; replace HB := Lib.hid (below_on HB.out hx); replace c0 := cell_on hx c0; replace c1 := cell_on hx c1; replace c2 := cell_on hx c2; replace x0 := cell_on hx x0; replace x1 := cell_on hx x1; replace x2 := cell_on hx x2; replace SX := Lib.hid (SX.out.below hx); clear hx))
          go_roundw
          case rel => exact ⟨j + 1, by omega, by go_num, HB, Lib.hid ⟨c0, c1, c2⟩, Lib.hid ⟨x0, x1, x2⟩, SX⟩
          case measure => simp [intOf]; omega
    · obtain rfl : j = n := by omega
      go_wp2
      go_ret
      exact ⟨rfl, HB.out⟩

set_option maxRecDepth 100000 in
theorem lifted (os : Os) (started : os.Started) (H : Type) (enc : TypeId × Value → H) :
    ReturnsInHanded {} Tryd.checked os 7 .any (fun w args => (Rows.imageMirrorSpec.pre enc Tryd.prog Tryd.f7 [] false w args ∧ laidMetH Tryd.prog laidL w) ∧ sizedMet enc Tryd.prog Tryd.f7 (OpenSpec.ofChange Rows.imageMirrorSpec) false w args)
      (Rows.imageMirrorSpec.post enc Tryd.prog Tryd.f7 false true false false) := by
  refine returnsInHanded_of_change_and (C := Tryd.checked) (X := fun w _ => laidMetH Tryd.prog laidL w) (fun _ _ _ hh h => h.of_heap hh) own started (by kernel_rfl) Tryd.func7
    (ChangeSpec.witness_shaped (enc := enc) (C := Tryd.checked) (os := os) (X := fun w _ => laidMetH Tryd.prog laidL w) false (World.doorLaid Tryd.prog 400 os) #[.agg #[.slice none 0 0, .int .i64 0, .int .i64 0]] 8 rfl (World.shaped_of_RefB (by kernel_rfl) (by kernel_rfl)) (by kernel_rfl) (by kernel_rfl) (by kernel_rfl) (door_met os _)) ?_
  intro W base args ds gs before hval0 hW _ _ hLm _
  have hL := of_laid hLm
  have hval : ∀ (j : Nat) t v, Tryd.f7.params[j]? = some t → args[j]? = some v → Value.okWide Tryd.prog W .any base t v := hval0
  have hW' := hW
  obtain ⟨p, q, hA0, hV, rfl, hfz, hnd⟩ := hW
  have hA : DataW.TrodAll enc Tryd.prog W 0 (fun _ => true) true Tryd.f7.params.toList args.toList ds p := hA0
  rw [Tryd.params7] at hA hval
  obtain ⟨v0, vs0, d0, ds0, p0, q0, hargs, rfl, rfl, h0, r0⟩ := trodAll_cons hA
  obtain ⟨rfl, rfl, rfl⟩ := trodAll_nil r0
  obtain rfl : args = #[v0] := by cases args; simp_all
  obtain ⟨rfl, rfl⟩ := trodVars_none hV
  have k0 := h0
  have lt0 : ∀ x ∈ p0, x.block < W.heap.size := by obtain ⟨m, hm⟩ := k0; exact DataW.trod_lt m _ _ _ hm
  obtain ⟨a, n, cap, m, s, l, rfl, hn, hb, hS, hw⟩ := open_image (hval 0 24 v0 rfl rfl) h0
  clear hA0 hval0
  refine (walk a n cap m s l W hn hb hS hw hL).mono fun e W' ⟨he, bel⟩ => ?_
  subst he
  exact ⟨_, rfl, _, _, _, [], _, [], hW', trodAll_mk1 (shut_bool Tryd.underlying4 _), (trodAll_cons_mk (Below.trod laidOut (by kernel_rfl) (of_decide_eq_true (by kernel_rfl)) k0 bel lt0) trodAll_mk0), rfl, bel.frame _, fun h => by cases h⟩

theorem over : Rows.imageMirrorRow.holds Tryd.pinned (OpenSpec.ofChange Rows.imageMirrorSpec) :=
  OpenClaim.holds_of_wide 7 Tryd.f7 rfl rfl rfl rfl rfl rfl rfl ⟨rfl, rfl, rfl, rfl, rfl⟩ rfl rfl rfl rfl rfl (by kernel_rfl) Tryd.func7 (by kernel_rfl)
    (of_decide_eq_true (by kernel_rfl)) (by unfold Func.isWrapper; first | (rw [if_pos (by decide +kernel)]; kernel_rfl) | (rw [if_neg (by decide +kernel)]; exact ⟨rfl, rfl⟩))
    (fun os started H enc _ => lifted os started H enc)

theorem proved : Rows.ImageMirrorCardSaid :=
  Claim7.holds_tied_plain_at .later [] [.data] true (true, "e81659936c82e3a671cfc7106131e0789ef7ada7cc59735c1fc83ffbcfb7ed7d") false
    over (fun _ h => by cases h) (by kernel_rfl) (fun _ h => by cases h) imageMirror_row_tie rfl ⟨rfl, rfl⟩ (by kernel_rfl) rfl
    (fun f fn hf hfn => by
      obtain rfl : f = 7 := Option.some.inj ((show Tryd.prog.funcNamed "backstep/backsteplaw23.ImageMirror" = some 7 by kernel_rfl).symm.trans hf) |>.symm
      obtain rfl : fn = Tryd.f7 := (Option.some.inj (Tryd.func7.symm.trans hfn)).symm
      exact ⟨by kernel_rfl, fun j t ht => by
        rw [Tryd.params7] at ht
        have hm : t ∈ [24] := by simpa using Array.mem_of_getElem? ht
        have hall : ([24].all fun u => !Tryd.prog.wantsStandIn u) = true := by kernel_rfl
        exact (show Tryd.prog.wantsStandIn t = false by simpa using List.all_eq_true.1 hall t hm)⟩)
    (by kernel_rfl)
#print axioms proved
end Go.Proofs.YtalkhkhnpplofaaDoor.imageMirror
