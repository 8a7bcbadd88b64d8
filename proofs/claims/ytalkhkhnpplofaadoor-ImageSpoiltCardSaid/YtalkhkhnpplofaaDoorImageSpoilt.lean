/- The tied card of ImageSpoilt: it answers true for every image and pick, where the table of instructions holds what the program's text lays in it. -/
import Derived.Test.YtalkhkhnpplofaaDoorRows
import Derived.Test.YtalkhkhnpplofaaDoorCards
import Derived.Test.YtalkhkhnpplofaaDoorTie
import Derived.LaidMore
import Derived.Stop.Joined
import Derived.SevenTiedAt
import Derived.WalkKit
import Derived.ProofKit
import Derived.OpenShut
import Derived.ShutString
import Derived.ChangeOld
import Derived.Below
import Derived.Test.YtalkhkhnpplofaaDoorArg
import Derived.Lib.Hide
import Derived.Deep.RegionHeld3
import Derived.Deep.QuietTactic
import Derived.BigQuiet
import Derived.WalkSmall
import Derived.Outline
import Derived.IntWalk
import Derived.StillTailTactics
import Derived.Handy
import Derived.Deep.Cut
import Derived.Deep.OwnRows
import Derived.Deep.RegionWith
import Derived.WalkLawsBesides
import Derived.WalkSpells
import Derived.Test.YtalkhkhnpplofaaDoorCopy
import Derived.Test.YtalkhkhnpplofaaDoorSpo
namespace Go.Proofs.YtalkhkhnpplofaaDoor.imageSpoilt
open Go.ChangeShapes Go.WideShapes Go.ChangeAt Go.RowKit
open Go.ChangeMaps (open_string shut_string)
set_option linter.unusedSimpArgs false
set_option linter.unusedVariables false

theorem own : ownKnob Tryd.prog.godebug = none := by kernel_rfl
theorem laidOut : laidOutB Tryd.prog = true := by kernel_rfl

/-- what the listed variables hold when the call begins -/
abbrev laidL {H : Type} : List (String × DataW H) := [("backstep/isa.table", Rows.laid_backstep_isa_table)]
theorem gno0 : Tryd.prog.globalNamed "backstep/isa.table" = some 0 := by kernel_rfl
theorem gty0 : (Tryd.prog.globals[0]?).map (·.type) = some 80 := by kernel_rfl
theorem door_met (os : Os) (args : Array Value) : laidMetH Tryd.prog laidL ((World.doorLaid Tryd.prog 400 os).forCall (fun _ _ => 0) ⟨#[], args, []⟩).memory :=
  laidMetH_of_parts3 (fuel := 8) (laidMet_of_run' 8 (by kernel_rfl) (by kernel_rfl)) (by kernel_rfl) (by kernel_rfl)

def Laid (W : World) : Prop := Go.Proofs.YtalkhkhnpplofaaDoor.Laid W
theorem of_laid {W : World} (h : laidMetH Tryd.prog laidL W) : Laid W := by
  rw [MakeChecks.laidMetH_plain _ _ _ (by kernel_rfl)] at h
  obtain ⟨ps, ⟨g0, t0, cs0, f0, p0, q0, hg0, ht0, hv0, hd0, _, _⟩, _, _⟩ := h
  obtain rfl := Option.some.inj (gno0.symm.trans hg0)
  obtain rfl := Option.some.inj (gty0.symm.trans ht0)
  intro n hn
  have hd : DataW.trod (fun _ : TypeId × Value => ()) Tryd.prog W 0 (fun _ => true) false f0 80 cs0.toList = some (Rows.laid_backstep_isa_table, p0) := hd0
  have hr := pair_at Tryd.underlying80 Tryd.underlying65 (by kernel_rfl) (by kernel_rfl) Tryd.underlying9 ⟨rfl, rfl⟩ ⟨rfl, rfl⟩ hd n _ _ (table_at n hn)
  rw [Array.getElem?_toList, Array.getElem?_toList] at hr
  exact ⟨(World.var?_cell hg0 hv0 (n * 2)).trans hr.1, (World.var?_cell hg0 hv0 (n * 2 + 1)).trans hr.2⟩

set_option maxRecDepth 100000 in
set_option maxHeartbeats 4000000 in
theorem walk (a : Option Addr) (n cap : Nat) (m s : Int) (l : List Ins) (a1 : Int) (w : World) (hn : l.length = n) (hb : n ≤ maxLen) (hS : SliceC w a l) (hw : WF l) (w1 : (Lit.int .u8 a1).wf = true) (hL : Laid w) :
    Calls Tryd.prog 11 #[.agg #[.slice a n cap, .int .i64 m, .int .i64 s], .int .u8 a1] w fun e w' => e = .returned (.bool true) ∧ Below w.heap.size w w' := by
  have HS := Lib.hid hS
  have HL := Lib.hid hL
  have HN := Lib.hid hn
  have HB : Hid (Below w.heap.size w (w.alloc (.cells #[.slice a n cap, .int .i64 m, .int .i64 s] 24))) := Lib.hid ((Below.refl _ _).alloc (Nat.le_refl _) _)
  have c0 : (w.alloc (.cells #[.slice a n cap, .int .i64 m, .int .i64 s] 24)).cell? ⟨w.heap.size, 0, none⟩ = some (.slice a n cap) := by go_simp
  have c1 : (w.alloc (.cells #[.slice a n cap, .int .i64 m, .int .i64 s] 24)).cell? ⟨w.heap.size, 1, none⟩ = some (.int .i64 m) := by go_simp
  have c2 : (w.alloc (.cells #[.slice a n cap, .int .i64 m, .int .i64 s] 24)).cell? ⟨w.heap.size, 2, none⟩ = some (.int .i64 s) := by go_simp
  unfold maxLen at hb
  clear hS hL hn
  by_cases hg : (80 : Int) < (n : Int)
  · have HG := Lib.hid (decide_eq_true hg)
    go_enter Tryd.func11, Tryd.ntmps11
    go_wp2_with (first | (go_at_call 12; refine (awake_any _ (HL.out.below HB.out)).mono ?_; rintro e w1 ⟨rfl, hx⟩; replace HB := Lib.hid (below_on HB.out hx); replace c0 := cell_on hx c0; replace c1 := cell_on hx c1; replace c2 := cell_on hx c2; clear hx) | (go_at_call 13; refine (great_any _ _ _ _ _ _).mono ?_; rintro e w1 ⟨rfl, hx⟩; rw [HG.out]; replace HB := Lib.hid (below_on HB.out hx); replace c0 := cell_on hx c0; replace c1 := cell_on hx c1; replace c2 := cell_on hx c2; clear hx))
    go_ret
    exact ⟨rfl, HB.out⟩
  have HG := Lib.hid (decide_eq_false hg)
  by_cases hn0 : n = 0
  · subst hn0
    go_enter Tryd.func11, Tryd.ntmps11
    go_wp2_with (first | (go_at_call 12; refine (awake_any _ (HL.out.below HB.out)).mono ?_; rintro e w1 ⟨rfl, hx⟩; replace HB := Lib.hid (below_on HB.out hx); replace c0 := cell_on hx c0; replace c1 := cell_on hx c1; replace c2 := cell_on hx c2; clear hx) | (go_at_call 13; refine (great_any _ _ _ _ _ _).mono ?_; rintro e w1 ⟨rfl, hx⟩; rw [HG.out]; replace HB := Lib.hid (below_on HB.out hx); replace c0 := cell_on hx c0; replace c1 := cell_on hx c1; replace c2 := cell_on hx c2; clear hx))
    go_ret
    exact ⟨rfl, HB.out⟩
  by_cases hv : ckE l m s = 0
  case neg =>
    have HVB := Lib.hid (show (ckE l m s == 0) = false by simpa using hv)
    clear hv
    go_enter Tryd.func11, Tryd.ntmps11
    go_wp2_with (first | (go_at_call 12; refine (awake_any _ (HL.out.below HB.out)).mono ?_; rintro e w1 ⟨rfl, hx⟩; replace HB := Lib.hid (below_on HB.out hx); replace c0 := cell_on hx c0; replace c1 := cell_on hx c1; replace c2 := cell_on hx c2; clear hx) | (go_at_call 13; refine (great_any _ _ _ _ _ _).mono ?_; rintro e w1 ⟨rfl, hx⟩; rw [HG.out]; replace HB := Lib.hid (below_on HB.out hx); replace c0 := cell_on hx c0; replace c1 := cell_on hx c1; replace c2 := cell_on hx c2; clear hx) | (go_at_call 16; refine (valid_img _ n cap m s l _ (HS.out.below HB.out) HN.out hw (HL.out.below HB.out) (by omega)).mono ?_; rintro e w1 ⟨rfl, hx⟩; rw [HVB.out]; replace HB := Lib.hid (below_on HB.out hx); replace c0 := cell_on hx c0; replace c1 := cell_on hx c1; replace c2 := cell_on hx c2; clear hx))
    go_ret
    exact ⟨rfl, HB.out⟩
  have HVB := Lib.hid (show (ckE l m s == 0) = true by simpa using hv)
  have HE := Lib.hid hv
  have HR := Lib.hid (wd_ck.1 hv).1
  have HW := Lib.hid (wd_ck.1 hv).2
  clear hv
  have ba := bounds_u8 w1
  have hn0' : (0 : Int) < (n : Int) := by omega
  have hne0 : ((n : Int) == 0) = false := by simp; omega
  obtain ⟨r, hr⟩ : ∃ r : Nat, a1 % (n : Int) = r := ⟨(a1 % (n : Int)).toNat, by have := Int.emod_nonneg a1 (show (n : Int) ≠ 0 by omega); omega⟩
  have hrn : (r : Int) < (n : Int) := by rw [← hr]; exact Int.emod_lt_of_pos _ hn0'
  have tok16 : True := trivial
  go_enter Tryd.func11, Tryd.ntmps11
  go_upto_region 7 with (first | (go_at_call 12; refine (awake_any _ (HL.out.below HB.out)).mono ?_; rintro e w1 ⟨rfl, hx⟩; replace HB := Lib.hid (below_on HB.out hx); replace c0 := cell_on hx c0; replace c1 := cell_on hx c1; replace c2 := cell_on hx c2; clear hx) | (go_at_call 13; refine (great_any _ _ _ _ _ _).mono ?_; rintro e w1 ⟨rfl, hx⟩; rw [HG.out]; replace HB := Lib.hid (below_on HB.out hx); replace c0 := cell_on hx c0; replace c1 := cell_on hx c1; replace c2 := cell_on hx c2; clear hx) | (go_at_call 16; have _t := tok16; refine (valid_img _ n cap m s l _ (HS.out.below HB.out) HN.out hw (HL.out.below HB.out) (by omega)).mono ?_; rintro e w1 ⟨rfl, hx⟩; rw [HVB.out]; replace HB := Lib.hid (below_on HB.out hx); replace c0 := cell_on hx c0; replace c1 := cell_on hx c1; replace c2 := cell_on hx c2; clear hx tok16 _t) | (go_at_call 17; refine (partner_any _ n cap l m s r _ (HS.out.below HB.out) HN.out hw (HL.out.below HB.out)).mono ?_; rintro e w1 ⟨rfl, hx⟩; replace HB := Lib.hid (below_on HB.out hx); replace c0 := cell_on hx c0; replace c1 := cell_on hx c1; replace c2 := cell_on hx c2; clear hx))
  have HM0 : (fun w' => w'.cell? ⟨w.heap.size, 0, none⟩ = some (.slice a n cap) ∧ w'.cell? ⟨w.heap.size, 1, none⟩ = some (.int .i64 m) ∧ w'.cell? ⟨w.heap.size, 2, none⟩ = some (.int .i64 s) ∧ Below w.heap.size w w' ∧ SliceC w' a l) w1 := ⟨c0, c1, c2, HB.out, HS.out.below HB.out⟩
  have HMS := onC (below_drewN (n := 1) (Below.refl _ _)) HM0
  clear c0 c1 c2 HB
  go_region_held3 (fun w' => w'.cell? ⟨w.heap.size, 0, none⟩ = some (.slice a n cap) ∧ w'.cell? ⟨w.heap.size, 1, none⟩ = some (.int .i64 m) ∧ w'.cell? ⟨w.heap.size, 2, none⟩ = some (.int .i64 s) ∧ Below w.heap.size w w' ∧ SliceC w' a l) (first | exact HMS | exact HX | assumption | (exact onC (below_new _ _) (by assumption)) | (exact onC (((hbel.setCell (by simp) _).setCell (by simp) _).setCell (by simp) _) HM0))
      ((refine step_copyI rfl (.tmp 39) (.tmp 41) (by rfl) w1 (by go_grown) _ (by rfl) (by first | exact ownI_new _ _ _ (by simp) (by simp) | exact (ownI_new _ _ _ (by simp) (by simp)).alloc _) a cap n l (by rfl) HN.out (HM0.2.2.2.2.below (by go_grown)) (by omega) ?_; intro aa cc w' hown hbel hcc hff; have HX := onC hbel HM0; have HO := Lib.hid hown; clear hown))
  rotate_left
  all_goals (have hz3 := hbel.size)
  focus
    have b0 : World.cell? w' ⟨w1.heap.size + 1, 0, none⟩ = some (.slice none 0 0) := (hcc _ 0 (by simp) (by simp)).trans (by go_simp)
    have b1 : World.cell? w' ⟨w1.heap.size + 1, 1, none⟩ = some (.int .i64 0) := (hcc _ 1 (by simp) (by simp)).trans (by go_simp)
    have b2 : World.cell? w' ⟨w1.heap.size + 1, 2, none⟩ = some (.int .i64 0) := (hcc _ 2 (by simp) (by simp)).trans (by go_simp)
    have HCP := Lib.hid (CP.way2 HM0 hbel HO.out (by omega : w1.heap.size ≤ w1.heap.size + 1) b0 b1 b2)
    clear hcc hff HX HMS HO b0 b1 b2
    generalize (((w'.setCell ⟨w1.heap.size + 1, 0, none⟩ (.slice aa n cc)).setCell ⟨w1.heap.size + 1, 1, none⟩ (.int .i64 m)).setCell ⟨w1.heap.size + 1, 2, none⟩ (.int .i64 s)) = W at *
    generalize w1.heap.size + 1 = q at *
  rotate_left
  focus
    have b0 : World.cell? w' ⟨w1.heap.size, 0, none⟩ = some (.slice none 0 0) := (hcc _ 0 (by simp; try omega) (by simp)).trans (by go_simp)
    have b1 : World.cell? w' ⟨w1.heap.size, 1, none⟩ = some (.int .i64 0) := (hcc _ 1 (by simp; try omega) (by simp)).trans (by go_simp)
    have b2 : World.cell? w' ⟨w1.heap.size, 2, none⟩ = some (.int .i64 0) := (hcc _ 2 (by simp; try omega) (by simp)).trans (by go_simp)
    have HCP := Lib.hid (CP.way2 HM0 hbel HO.out (Nat.le_refl w1.heap.size) b0 b1 b2)
    clear hcc hff HX HMS HO b0 b1 b2
    generalize (((w'.setCell ⟨w1.heap.size, 0, none⟩ (.slice aa n cc)).setCell ⟨w1.heap.size, 1, none⟩ (.int .i64 m)).setCell ⟨w1.heap.size, 2, none⟩ (.int .i64 s)) = W at *
    obtain ⟨q, hq⟩ : ∃ q, q = w1.heap.size := ⟨_, rfl⟩
    rw [← hq]
    have HCQ : Hid (CP w n a cap m s l w1 q aa cc W) := by rw [hq]; exact HCP
    clear HCP hq
    have HCP := HCQ
    clear HCQ
  rotate_left
  focus
    have HCP := Lib.hid (CP.way1 HM0 hbel HO.out)
    clear hcc hff HX HMS HO
    generalize (w'.alloc (.cells #[.slice aa n cc, .int .i64 m, .int .i64 s] 24)) = W at *
    generalize w'.heap.size = q at *
  all_goals
    obtain ⟨⟨c0, c1, c2, hB, hS2⟩, ⟨x0, x1, x2⟩, hsl, hfr, hbl1, hq1, hq2⟩ := HCP.out
    obtain ⟨g, rfl, hg1, hg2, hg3⟩ := hfr (by intro e; have := HN.out; rw [e] at this; simp at this; omega)
    have hw0 := HM0.2.2.2.1.size
    have hw1 := World.block_lt_of_cell? _ _ HM0.1
    simp only at hw1
    obtain ⟨y, hy⟩ : ∃ y, l[r]? = some y := ⟨_, List.getElem?_eq_getElem (by have := HN.out; omega)⟩
    obtain ⟨b', o', e', _, d0, d1, d2, d3, d4⟩ := hsl.at hy
    cases e'
    rw [Nat.zero_add] at d0 d1 d2 d3 d4
    have g0 := hg3 (r * 5)
    have g1 := hg3 (r * 5 + 1)
    have g2 := hg3 (r * 5 + 2)
    have g3 := hg3 (r * 5 + 3)
    have g4 := hg3 (r * 5 + 4)
    have SZ := Lib.hid (slice_spo hsl (show r < l.length by have := HN.out; omega))
    have HBC : Hid (Below w1.heap.size w1 (((((W.setCell ⟨g, r * 5, none⟩ (.int .u8 0)).setCell ⟨g, r * 5 + 1, none⟩ (.int .i64 0)).setCell ⟨g, r * 5 + 2, none⟩ (.int .i64 0)).setCell ⟨g, r * 5 + 3, none⟩ (.int .i64 0)).setCell ⟨g, r * 5 + 4, none⟩ (.int .i64 0))) := Lib.hid (((((hbl1.setCell (p := ⟨g, r * 5, none⟩) hg1 _).setCell (p := ⟨g, r * 5 + 1, none⟩) hg1 _).setCell (p := ⟨g, r * 5 + 2, none⟩) hg1 _).setCell (p := ⟨g, r * 5 + 3, none⟩) hg1 _).setCell (p := ⟨g, r * 5 + 4, none⟩) hg1 _)
    have k0 := set_past (b' := g) (o' := r * 5 + 4) (v := .int .i64 0) (Ne.symm hg2) (set_past (b' := g) (o' := r * 5 + 3) (v := .int .i64 0) (Ne.symm hg2) (set_past (b' := g) (o' := r * 5 + 2) (v := .int .i64 0) (Ne.symm hg2) (set_past (b' := g) (o' := r * 5 + 1) (v := .int .i64 0) (Ne.symm hg2) (set_past (b' := g) (o' := r * 5) (v := .int .u8 0) (Ne.symm hg2) x0))))
    have k1 := set_past (b' := g) (o' := r * 5 + 4) (v := .int .i64 0) (Ne.symm hg2) (set_past (b' := g) (o' := r * 5 + 3) (v := .int .i64 0) (Ne.symm hg2) (set_past (b' := g) (o' := r * 5 + 2) (v := .int .i64 0) (Ne.symm hg2) (set_past (b' := g) (o' := r * 5 + 1) (v := .int .i64 0) (Ne.symm hg2) (set_past (b' := g) (o' := r * 5) (v := .int .u8 0) (Ne.symm hg2) x1))))
    have k2 := set_past (b' := g) (o' := r * 5 + 4) (v := .int .i64 0) (Ne.symm hg2) (set_past (b' := g) (o' := r * 5 + 3) (v := .int .i64 0) (Ne.symm hg2) (set_past (b' := g) (o' := r * 5 + 2) (v := .int .i64 0) (Ne.symm hg2) (set_past (b' := g) (o' := r * 5 + 1) (v := .int .i64 0) (Ne.symm hg2) (set_past (b' := g) (o' := r * 5) (v := .int .u8 0) (Ne.symm hg2) x2))))
    clear hB hS2 hsl hfr hbl1 hy hg3 HCP c0 c1 c2
    go_upto_region 9 with fail
    generalize (((((W.setCell ⟨g, r * 5, none⟩ (.int .u8 0)).setCell ⟨g, r * 5 + 1, none⟩ (.int .i64 0)).setCell ⟨g, r * 5 + 2, none⟩ (.int .i64 0)).setCell ⟨g, r * 5 + 3, none⟩ (.int .i64 0)).setCell ⟨g, r * 5 + 4, none⟩ (.int .i64 0)) = W2 at *
    have HMS := onC HBC.out HM0
    obtain ⟨c0, c1, c2, hB, hS2⟩ := HMS
    have HB := Lib.hid hB
    clear x0 x1 x2 d0 d1 d2 d3 d4 g0 g1 g2 g3 g4 hB hS2 hr
    go_upto_region 10 with (go_at_call 14; refine (check_any _ n cc m s (spo l r) _ SZ.out (by rw [spo_len]; exact HN.out) (spo_wf hw r) (HL.out.below HB.out) (by omega)).mono ?_; rintro e w5 ⟨rfl, hx⟩; replace HB := Lib.hid (below_on HB.out hx); replace c0 := cell_on hx c0; replace c1 := cell_on hx c1; replace c2 := cell_on hx c2; clear hx k0 k1 k2)
    cases hp : part l (r : Int) with
    | none =>
      obtain ⟨e1, e2⟩ := spo_none (m := m) (s := s) HW.out (i := r) (fun j hj => by rw [(part_iff l r _).2 ⟨j, rfl, hj⟩] at hp; cases hp) HR.out
      go_wp2
      go_ret
      exact ⟨rfl, HB.out⟩
    | some t =>
      obtain ⟨p, rfl, hpr⟩ := (part_iff l r t).1 hp
      obtain ⟨k, y, e1, e2, hy, hkp, hd⟩ := spo_check (m := m) (s := s) HW.out hpr HR.out
      have hkn : (k : Int) < (n : Int) := by have := lt_len hy; have := HN.out; omega
      have hk0 : decide ((k : Int) < 0) = false := by simp
      obtain ⟨b2, o2, rfl, _, d0, d1, d2, d3, d4⟩ := (HS.out.below HB.out).at hy
      clear hpr hy
      by_cases hkp2 : k = p
      · have hke : ((k : Int) == (p : Int)) = true := by simp [hkp2]
        clear hd hkp2
        go_wp2
        go_ret
        exact ⟨rfl, HB.out.alloc HB.out.size _⟩
      · have hke : ((k : Int) == (p : Int)) = false := by rw [beq_eq_false_iff_ne]; omega
        have hklt : decide (k < p) = true := decide_eq_true (by omega)
        obtain ⟨hk3, ha⟩ := hd.resolve_left hkp2
        have q3 : (y.k == 30) = true ∨ ((y.k == 30) = false ∧ (y.k == 31) = true) := by
          rcases hk3 with h | h
          · exact .inl (by rw [beq_iff_eq]; exact h)
          · exact .inr ⟨by rw [beq_eq_false_iff_ne]; omega, by rw [beq_iff_eq]; exact h⟩
        have qa : (y.a == (r : Int)) = true ∨ ((y.a == (r : Int)) = false ∧ (y.a == (p : Int)) = true) := by
          by_cases h : y.a = (r : Int)
          · exact .inl (by rw [beq_iff_eq]; exact h)
          · exact .inr ⟨by rw [beq_eq_false_iff_ne]; exact h, by rw [beq_iff_eq]; exact ha.resolve_left h⟩
        clear hd hkp2 hk3 ha
        rcases q3 with q3 | ⟨q3, q4⟩ <;> rcases qa with qa | ⟨qa, qb⟩
        · go_wp2
          go_ret
          exact ⟨rfl, HB.out.alloc HB.out.size _⟩
        · go_wp2
          go_ret
          exact ⟨rfl, HB.out.alloc HB.out.size _⟩
        · go_wp2
          go_ret
          exact ⟨rfl, HB.out.alloc HB.out.size _⟩
        · go_wp2
          go_ret
          exact ⟨rfl, HB.out.alloc HB.out.size _⟩

set_option maxRecDepth 100000 in
theorem lifted (os : Os) (started : os.Started) (H : Type) (enc : TypeId × Value → H) :
    ReturnsInHanded {} Tryd.checked os 11 .any (fun w args => (Rows.imageSpoiltSpec.pre enc Tryd.prog Tryd.f11 [] false w args ∧ laidMetH Tryd.prog laidL w) ∧ sizedMet enc Tryd.prog Tryd.f11 (OpenSpec.ofChange Rows.imageSpoiltSpec) false w args)
      (Rows.imageSpoiltSpec.post enc Tryd.prog Tryd.f11 false true false false) := by
  refine returnsInHanded_of_change_and (C := Tryd.checked) (X := fun w _ => laidMetH Tryd.prog laidL w) (fun _ _ _ hh h => h.of_heap hh) own started (by kernel_rfl) Tryd.func11
    (ChangeSpec.witness_shaped (enc := enc) (C := Tryd.checked) (os := os) (X := fun w _ => laidMetH Tryd.prog laidL w) false (World.doorLaid Tryd.prog 400 os) #[.agg #[.slice none 0 0, .int .i64 0, .int .i64 0], .int .u8 0] 8 rfl (World.shaped_of_RefB (by kernel_rfl) (by kernel_rfl)) (by kernel_rfl) (by kernel_rfl) (by kernel_rfl) (door_met os _)) ?_
  intro W base args ds gs before hval0 hW _ _ hLm _
  have hL := of_laid hLm
  have hval : ∀ (j : Nat) t v, Tryd.f11.params[j]? = some t → args[j]? = some v → Value.okWide Tryd.prog W .any base t v := hval0
  have hW' := hW
  obtain ⟨p, q, hA0, hV, rfl, hfz, hnd⟩ := hW
  have hA : DataW.TrodAll enc Tryd.prog W 0 (fun _ => true) true Tryd.f11.params.toList args.toList ds p := hA0
  rw [Tryd.params11] at hA hval
  obtain ⟨v0, vs0, d0, ds0, p0, q0, hargs, rfl, rfl, h0, r0⟩ := trodAll_cons hA
  obtain ⟨v1, vs1, d1, ds1, p1, q1, rfl, rfl, rfl, h1, r1⟩ := trodAll_cons r0
  obtain ⟨rfl, rfl, rfl⟩ := trodAll_nil r1
  obtain rfl : args = #[v0, v1] := by cases args; simp_all
  obtain ⟨rfl, rfl⟩ := trodVars_none hV
  have k0 := h0
  have lt0 : ∀ x ∈ p0, x.block < W.heap.size := by obtain ⟨m, hm⟩ := k0; exact DataW.trod_lt m _ _ _ hm
  obtain ⟨a, n, cap, m, s, l, rfl, hn, hb, hS, hw⟩ := open_image (hval 0 24 v0 rfl rfl) h0
  obtain ⟨a1, rfl, rfl, rfl, w1⟩ := open_int Tryd.underlying5 (hval 1 5 v1 rfl rfl) h1
  clear hA0 hval0
  refine (walk a n cap m s l a1 W hn hb hS hw w1 hL).mono fun e W' ⟨he, bel⟩ => ?_
  subst he
  exact ⟨_, rfl, _, _, _, [], _, [], hW', trodAll_mk1 (shut_bool Tryd.underlying4 _), (trodAll_cons_mk (Below.trod laidOut (by kernel_rfl) (of_decide_eq_true (by kernel_rfl)) k0 bel lt0) (trodAll_cons_mk (shut_int Tryd.underlying5 w1) trodAll_mk0)), rfl, bel.frame _, fun h => by cases h⟩

theorem over : Rows.imageSpoiltRow.holds Tryd.pinned (OpenSpec.ofChange Rows.imageSpoiltSpec) :=
  OpenClaim.holds_of_wide 11 Tryd.f11 rfl rfl rfl rfl rfl rfl rfl ⟨rfl, rfl, rfl, rfl, rfl⟩ rfl rfl rfl rfl rfl (by kernel_rfl) Tryd.func11 (by kernel_rfl)
    (of_decide_eq_true (by kernel_rfl)) (by unfold Func.isWrapper; first | (rw [if_pos (by decide +kernel)]; kernel_rfl) | (rw [if_neg (by decide +kernel)]; exact ⟨rfl, rfl⟩))
    (fun os started H enc _ => lifted os started H enc)

theorem proved : Rows.ImageSpoiltCardSaid :=
  Claim7.holds_tied_plain_at .later [] [.data] true (true, "e81659936c82e3a671cfc7106131e0789ef7ada7cc59735c1fc83ffbcfb7ed7d") false
    over (fun _ h => by cases h) (by kernel_rfl) (fun _ h => by cases h) imageSpoilt_row_tie rfl ⟨rfl, rfl⟩ (by kernel_rfl) rfl
    (fun f fn hf hfn => by
      obtain rfl : f = 11 := Option.some.inj ((show Tryd.prog.funcNamed "backstep/backsteplaw23.ImageSpoilt" = some 11 by kernel_rfl).symm.trans hf) |>.symm
      obtain rfl : fn = Tryd.f11 := (Option.some.inj (Tryd.func11.symm.trans hfn)).symm
      exact ⟨by kernel_rfl, fun j t ht => by
        rw [Tryd.params11] at ht
        have hm : t ∈ [24, 5] := by simpa using Array.mem_of_getElem? ht
        have hall : ([24, 5].all fun u => !Tryd.prog.wantsStandIn u) = true := by kernel_rfl
        exact (show Tryd.prog.wantsStandIn t = false by simpa using List.all_eq_true.1 hall t hm)⟩)
    (by kernel_rfl)
#print axioms proved
end Go.Proofs.YtalkhkhnpplofaaDoor.imageSpoilt
