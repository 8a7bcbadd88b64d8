/- The tied card of ImagePartner: it answers true for every image and index, where the table of instructions holds what the program's text lays in it. -/
import Derived.Test.YtalkhkhnpplofaaDoorRows
import Derived.Test.YtalkhkhnpplofaaDoorCards
import Derived.Test.YtalkhkhnpplofaaDoorTie
import Derived.LaidMore
import Derived.Stop.Joined
import Derived.SevenTiedAt
import Derived.WalkKit
import Derived.ProofKit
import Derived.OpenShut
import Derived.ShutString
import Derived.ChangeOld
import Derived.Below
import Derived.Test.YtalkhkhnpplofaaDoorArg
import Derived.Lib.Hide
import Derived.Deep.RegionHeld3
import Derived.Deep.QuietTactic
import Derived.BigQuiet
import Derived.WalkSmall
import Derived.Outline
import Derived.IntWalk
import Derived.StillTailTactics
import Derived.Handy
import Derived.Deep.Cut
import Derived.Deep.OwnRows
import Derived.Deep.RegionWith
import Derived.WalkLawsBesides
import Derived.WalkSpells
import Derived.Test.YtalkhkhnpplofaaDoorRead
namespace Go.Proofs.YtalkhkhnpplofaaDoor.imagePartner
open Go.ChangeShapes Go.WideShapes Go.ChangeAt Go.RowKit
open Go.ChangeMaps (open_string shut_string)
set_option linter.unusedSimpArgs false
set_option linter.unusedVariables false

theorem own : ownKnob Tryd.prog.godebug = none := by kernel_rfl
theorem laidOut : laidOutB Tryd.prog = true := by kernel_rfl

/-- what the listed variables hold when the call begins -/
abbrev laidL {H : Type} : List (String × DataW H) := [("backstep/isa.table", Rows.laid_backstep_isa_table)]
theorem gno0 : Tryd.prog.globalNamed "backstep/isa.table" = some 0 := by kernel_rfl
theorem gty0 : (Tryd.prog.globals[0]?).map (·.type) = some 80 := by kernel_rfl
theorem door_met (os : Os) (args : Array Value) : laidMetH Tryd.prog laidL ((World.doorLaid Tryd.prog 400 os).forCall (fun _ _ => 0) ⟨#[], args, []⟩).memory :=
  laidMetH_of_parts3 (fuel := 8) (laidMet_of_run' 8 (by kernel_rfl) (by kernel_rfl)) (by kernel_rfl) (by kernel_rfl)

def Laid (W : World) : Prop := Go.Proofs.YtalkhkhnpplofaaDoor.Laid W
theorem of_laid {W : World} (h : laidMetH Tryd.prog laidL W) : Laid W := by
  rw [MakeChecks.laidMetH_plain _ _ _ (by kernel_rfl)] at h
  obtain ⟨ps, ⟨g0, t0, cs0, f0, p0, q0, hg0, ht0, hv0, hd0, _, _⟩, _, _⟩ := h
  obtain rfl := Option.some.inj (gno0.symm.trans hg0)
  obtain rfl := Option.some.inj (gty0.symm.trans ht0)
  intro n hn
  have hd : DataW.trod (fun _ : TypeId × Value => ()) Tryd.prog W 0 (fun _ => true) false f0 80 cs0.toList = some (Rows.laid_backstep_isa_table, p0) := hd0
  have hr := pair_at Tryd.underlying80 Tryd.underlying65 (by kernel_rfl) (by kernel_rfl) Tryd.underlying9 ⟨rfl, rfl⟩ ⟨rfl, rfl⟩ hd n _ _ (table_at n hn)
  rw [Array.getElem?_toList, Array.getElem?_toList] at hr
  exact ⟨(World.var?_cell hg0 hv0 (n * 2)).trans hr.1, (World.var?_cell hg0 hv0 (n * 2 + 1)).trans hr.2⟩

set_option maxRecDepth 100000 in
set_option maxHeartbeats 2000000 in
theorem walk (a : Option Addr) (n cap : Nat) (m s : Int) (l : List Ins) (a1 : Int) (w : World) (hn : l.length = n) (hb : n ≤ maxLen) (hS : SliceC w a l) (hw : WF l) (w1 : (Lit.int .i64 a1).wf = true) (hL : Laid w) :
    Calls Tryd.prog 4 #[.agg #[.slice a n cap, .int .i64 m, .int .i64 s], .int .i64 a1] w fun e w' => e = .returned (.bool true) ∧ Below w.heap.size w w' := by
  have HS := Lib.hid hS
  have HL := Lib.hid hL
  have HN := Lib.hid hn
  have HB : Hid (Below w.heap.size w (w.alloc (.cells #[.slice a n cap, .int .i64 m, .int .i64 s] 24))) := Lib.hid ((Below.refl _ _).alloc (Nat.le_refl _) _)
  have c0 : (w.alloc (.cells #[.slice a n cap, .int .i64 m, .int .i64 s] 24)).cell? ⟨w.heap.size, 0, none⟩ = some (.slice a n cap) := by go_simp
  have c1 : (w.alloc (.cells #[.slice a n cap, .int .i64 m, .int .i64 s] 24)).cell? ⟨w.heap.size, 1, none⟩ = some (.int .i64 m) := by go_simp
  have c2 : (w.alloc (.cells #[.slice a n cap, .int .i64 m, .int .i64 s] 24)).cell? ⟨w.heap.size, 2, none⟩ = some (.int .i64 s) := by go_simp
  unfold maxLen at hb
  clear hS hL hn
  by_cases hg : (80 : Int) < (n : Int)
  · have HG := Lib.hid (decide_eq_true hg)
    go_enter Tryd.func4, Tryd.ntmps4
    go_wp2_with (first | (go_at_call 12; refine (awake_any _ (HL.out.below HB.out)).mono ?_; rintro e w1 ⟨rfl, hx⟩; replace HB := Lib.hid (below_on HB.out hx); replace c0 := cell_on hx c0; replace c1 := cell_on hx c1; replace c2 := cell_on hx c2; clear hx) | (go_at_call 13; refine (great_any _ _ _ _ _ _).mono ?_; rintro e w1 ⟨rfl, hx⟩; rw [HG.out]; replace HB := Lib.hid (below_on HB.out hx); replace c0 := cell_on hx c0; replace c1 := cell_on hx c1; replace c2 := cell_on hx c2; clear hx))
    go_ret
    exact ⟨rfl, HB.out⟩
  have HG := Lib.hid (decide_eq_false hg)
  have e1 : (part l a1).isSome = decide (0 ≤ rp l a1) := rp_isSome l a1
  have e2 : ((part l a1).getD 0 != max (rp l a1) 0) = false := by
    cases hp : part l a1 with
    | none => rw [rp_of_none hp]; rfl
    | some t => rw [rp_of_some hp]; have := part_nonneg hp; simp only [Option.getD_some, bne_eq_false_iff_eq]; omega
  obtain ⟨N, hN⟩ : ∃ N, (pcs l n).length = N := ⟨_, rfl⟩
  have HPL := Lib.hid hN
  have hNn : N ≤ 80 := by have := pcs_len l n; omega
  clear hN
  go_enter Tryd.func4, Tryd.ntmps4
  go_wp2_with (first | (go_at_call 12; refine (awake_any _ (HL.out.below HB.out)).mono ?_; rintro e w1 ⟨rfl, hx⟩; replace HB := Lib.hid (below_on HB.out hx); replace c0 := cell_on hx c0; replace c1 := cell_on hx c1; replace c2 := cell_on hx c2; clear hx) | (go_at_call 13; refine (great_any _ _ _ _ _ _).mono ?_; rintro e w1 ⟨rfl, hx⟩; rw [HG.out]; replace HB := Lib.hid (below_on HB.out hx); replace c0 := cell_on hx c0; replace c1 := cell_on hx c1; replace c2 := cell_on hx c2; clear hx) | (go_at_call 17; refine (partner_any _ n cap l m s a1 _ (HS.out.below HB.out) HN.out hw (HL.out.below HB.out)).mono ?_; rintro e w1 ⟨rfl, hx⟩; replace HB := Lib.hid (below_on HB.out hx); replace c0 := cell_on hx c0; replace c1 := cell_on hx c1; replace c2 := cell_on hx c2; clear hx) | (go_at_call 18; refine (rpartner_any _ n cap l a1 _ (HS.out.below HB.out) HN.out hw).mono ?_; rintro e w1 ⟨rfl, hx⟩; replace HB := Lib.hid (below_on HB.out hx); replace c0 := cell_on hx c0; replace c1 := cell_on hx c1; replace c2 := cell_on hx c2; clear hx) | (go_at_call 19; refine (procs_any _ n cap m s l _ (HS.out.below HB.out) HN.out (by omega)).mono ?_; rintro e w1 ⟨v, rfl, ho, hx⟩; obtain ⟨ap, cp, rfl, hsn⟩ := own_slice ho; rw [HPL.out]; have HP := Lib.hid hsn; replace HB := Lib.hid (below_on HB.out hx); replace c0 := cell_on hx c0; replace c1 := cell_on hx c1; replace c2 := cell_on hx c2; clear hx ho hsn) | (go_at_call 20; refine (halt_any _ n cap m s l _ (HS.out.below HB.out) HN.out (by omega)).mono ?_; rintro e w1 ⟨rfl, hx⟩; replace HP := Lib.hid (HP.out.below hx); replace HB := Lib.hid (below_on HB.out hx); replace c0 := cell_on hx c0; replace c1 := cell_on hx c1; replace c2 := cell_on hx c2; clear hx))
  clear e1 e2
  have HC := Lib.hid c0
  clear c0 c1 c2
  go_loopw [11, 12, 49] (fun x11 x12 x49 wr => ∃ j : Nat, j ≤ n ∧ x49 = .int .i64 j ∧ x11 = .int .i64 (pcs l j).length ∧ x12 = .int .i64 (fu l j) ∧ Hid (Below w.heap.size w wr) ∧ Hid (SliceN wr ap (pcs l n))) (fun _ _ x49 _ => n - (intOf x49).toNat)
  case atStart => exact ⟨0, by omega, rfl, rfl, rfl, HB, HP⟩
  case round =>
    clear HB HP
    rename_i x11 x12 x49 wr
    obtain ⟨j, hj, rfl, rfl, rfl, HB, HP⟩ := hrel
    have hf := fu_range l j
    have hpl := pcs_len l j
    by_cases hjn : j < n
    · have hdl : (j : Int) < (n : Int) := by omega
      obtain ⟨x, hx⟩ : ∃ x, l[j]? = some x := ⟨_, List.getElem?_eq_getElem (by have := HN.out; omega)⟩
      obtain ⟨b, o, rfl, hbl, d0, d1, d2, d3, d4⟩ := (HS.out.below HB.out).at hx
      have HX := Lib.hid hx; have hbs := HB.out.size; have HB2 := Lib.hid (HB.out.alloc hbs (.cells #[.int .u8 x.k, .int .i64 x.a, .int .i64 x.b, .int .i64 x.c, .int .i64 x.d] 39))
      have hb3 := Lib.hid (HP.out.below ((Below.refl _ _).alloc (Nat.le_refl _) (.cells #[.int .u8 x.k, .int .i64 x.a, .int .i64 x.b, .int .i64 x.c, .int .i64 x.d] 39)))
      clear hx
      by_cases h32 : x.k = 32
      · have b32 : (x.k == 32) = true := by simpa using h32
        have b34 : (x.k == 34) = false := by rw [beq_eq_false_iff_ne]; omega
        have hpa := pcs_at HX.out h32 hjn
        have hlt : (pcs l j).length < N := by rw [← HPL.out]; exact (List.getElem?_eq_some_iff.1 hpa).1
        have hltI : ((pcs l j).length : Int) < (N : Int) := by omega
        obtain ⟨g, rfl, hcell⟩ := hb3.out.at hpa
        have HF := Lib.hid (fu_no HX.out (.inl (by omega)))
        have HY := Lib.hid (show (pcs l (j + 1)).length = (pcs l j).length + 1 by rw [pcs_yes HX.out h32]; simp)
        clear hpa h32
        go_wp2
        go_roundw
        case rel => exact ⟨j + 1, by omega, by go_num, by rw [HY.out]; go_num, by rw [HF.out], HB2, hb3⟩
        case measure => simp [intOf]; omega
      · have b32 : (x.k == 32) = false := by simpa using h32
        have HY := Lib.hid (show pcs l (j + 1) = pcs l j from pcs_no HX.out h32)
        clear h32
        by_cases h34 : x.k = 34
        · have b34 : (x.k == 34) = true := by simpa using h34
          by_cases hneg : fu l j < 0
          · have HF := Lib.hid (fu_yes HX.out h34 hneg)
            have hng : decide (fu l j < 0) = true := decide_eq_true hneg
            clear hneg h34
            go_wp2
            go_roundw
            case rel => exact ⟨j + 1, by omega, by go_num, by rw [HY.out], by rw [HF.out], HB2, hb3⟩
            case measure => simp [intOf]; omega
          · have HF := Lib.hid (fu_no HX.out (.inr hneg))
            have hng : decide (fu l j < 0) = false := decide_eq_false hneg
            clear hneg h34
            go_wp2
            go_roundw
            case rel => exact ⟨j + 1, by omega, by go_num, by rw [HY.out], by rw [HF.out], HB2, hb3⟩
            case measure => simp [intOf]; omega
        · have b34 : (x.k == 34) = false := by simpa using h34
          have HF := Lib.hid (fu_no HX.out (.inl h34))
          clear h34
          go_wp2
          go_roundw
          case rel => exact ⟨j + 1, by omega, by go_num, by rw [HY.out], by rw [HF.out], HB2, hb3⟩
          case measure => simp [intOf]; omega
    · obtain rfl : j = n := by omega
      obtain ⟨g1, g2⟩ := fu_fst l
      rw [HN.out] at g1 g2
      have HPL2 := HPL.out
      have e3 : (((pcs l j).length : Int) == (N : Int)) = true := by rw [HPL2]; simp
      have e4 : fstB l = decide (0 ≤ fu l j) := g2
      have e5 : (fstI l == max (fu l j) 0) = true := by rw [g1]; simp
      clear g1 g2 HPL2
      go_wp2
      go_ret
      exact ⟨rfl, HB.out⟩

set_option maxRecDepth 100000 in
theorem lifted (os : Os) (started : os.Started) (H : Type) (enc : TypeId × Value → H) :
    ReturnsInHanded {} Tryd.checked os 4 .any (fun w args => (Rows.imagePartnerSpec.pre enc Tryd.prog Tryd.f4 [] false w args ∧ laidMetH Tryd.prog laidL w) ∧ sizedMet enc Tryd.prog Tryd.f4 (OpenSpec.ofChange Rows.imagePartnerSpec) false w args)
      (Rows.imagePartnerSpec.post enc Tryd.prog Tryd.f4 false true false false) := by
  refine returnsInHanded_of_change_and (C := Tryd.checked) (X := fun w _ => laidMetH Tryd.prog laidL w) (fun _ _ _ hh h => h.of_heap hh) own started (by kernel_rfl) Tryd.func4
    (ChangeSpec.witness_shaped (enc := enc) (C := Tryd.checked) (os := os) (X := fun w _ => laidMetH Tryd.prog laidL w) false (World.doorLaid Tryd.prog 400 os) #[.agg #[.slice none 0 0, .int .i64 0, .int .i64 0], .int .i64 0] 8 rfl (World.shaped_of_RefB (by kernel_rfl) (by kernel_rfl)) (by kernel_rfl) (by kernel_rfl) (by kernel_rfl) (door_met os _)) ?_
  intro W base args ds gs before hval0 hW _ _ hLm _
  have hL := of_laid hLm
  have hval : ∀ (j : Nat) t v, Tryd.f4.params[j]? = some t → args[j]? = some v → Value.okWide Tryd.prog W .any base t v := hval0
  have hW' := hW
  obtain ⟨p, q, hA0, hV, rfl, hfz, hnd⟩ := hW
  have hA : DataW.TrodAll enc Tryd.prog W 0 (fun _ => true) true Tryd.f4.params.toList args.toList ds p := hA0
  rw [Tryd.params4] at hA hval
  obtain ⟨v0, vs0, d0, ds0, p0, q0, hargs, rfl, rfl, h0, r0⟩ := trodAll_cons hA
  obtain ⟨v1, vs1, d1, ds1, p1, q1, rfl, rfl, rfl, h1, r1⟩ := trodAll_cons r0
  obtain ⟨rfl, rfl, rfl⟩ := trodAll_nil r1
  obtain rfl : args = #[v0, v1] := by cases args; simp_all
  obtain ⟨rfl, rfl⟩ := trodVars_none hV
  have k0 := h0
  have lt0 : ∀ x ∈ p0, x.block < W.heap.size := by obtain ⟨m, hm⟩ := k0; exact DataW.trod_lt m _ _ _ hm
  obtain ⟨a, n, cap, m, s, l, rfl, hn, hb, hS, hw⟩ := open_image (hval 0 24 v0 rfl rfl) h0
  obtain ⟨a1, rfl, rfl, rfl, w1⟩ := open_int Tryd.underlying3 (hval 1 3 v1 rfl rfl) h1
  clear hA0 hval0
  refine (walk a n cap m s l a1 W hn hb hS hw w1 hL).mono fun e W' ⟨he, bel⟩ => ?_
  subst he
  exact ⟨_, rfl, _, _, _, [], _, [], hW', trodAll_mk1 (shut_bool Tryd.underlying4 _), (trodAll_cons_mk (Below.trod laidOut (by kernel_rfl) (of_decide_eq_true (by kernel_rfl)) k0 bel lt0) (trodAll_cons_mk (shut_int Tryd.underlying3 w1) trodAll_mk0)), rfl, bel.frame _, fun h => by cases h⟩

theorem over : Rows.imagePartnerRow.holds Tryd.pinned (OpenSpec.ofChange Rows.imagePartnerSpec) :=
  OpenClaim.holds_of_wide 4 Tryd.f4 rfl rfl rfl rfl rfl rfl rfl ⟨rfl, rfl, rfl, rfl, rfl⟩ rfl rfl rfl rfl rfl (by kernel_rfl) Tryd.func4 (by kernel_rfl)
    (of_decide_eq_true (by kernel_rfl)) (by unfold Func.isWrapper; first | (rw [if_pos (by decide +kernel)]; kernel_rfl) | (rw [if_neg (by decide +kernel)]; exact ⟨rfl, rfl⟩))
    (fun os started H enc _ => lifted os started H enc)

theorem proved : Rows.ImagePartnerCardSaid :=
  Claim7.holds_tied_plain_at .later [] [.data] true (true, "e81659936c82e3a671cfc7106131e0789ef7ada7cc59735c1fc83ffbcfb7ed7d") false
    over (fun _ h => by cases h) (by kernel_rfl) (fun _ h => by cases h) imagePartner_row_tie rfl ⟨rfl, rfl⟩ (by kernel_rfl) rfl
    (fun f fn hf hfn => by
      obtain rfl : f = 4 := Option.some.inj ((show Tryd.prog.funcNamed "backstep/backsteplaw23.ImagePartner" = some 4 by kernel_rfl).symm.trans hf) |>.symm
      obtain rfl : fn = Tryd.f4 := (Option.some.inj (Tryd.func4.symm.trans hfn)).symm
      exact ⟨by kernel_rfl, fun j t ht => by
        rw [Tryd.params4] at ht
        have hm : t ∈ [24, 3] := by simpa using Array.mem_of_getElem? ht
        have hall : ([24, 3].all fun u => !Tryd.prog.wantsStandIn u) = true := by kernel_rfl
        exact (show Tryd.prog.wantsStandIn t = false by simpa using List.all_eq_true.1 hall t hm)⟩)
    (by kernel_rfl)
#print axioms proved
end Go.Proofs.YtalkhkhnpplofaaDoor.imagePartner
