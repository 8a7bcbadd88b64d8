/- The tied card of ImagePairs: it answers true for every image, where the table of instructions holds what the program's text lays in it. -/
import Derived.Test.YtalkhkhnpplofaaDoorRows
import Derived.Test.YtalkhkhnpplofaaDoorCards
import Derived.Test.YtalkhkhnpplofaaDoorTie
import Derived.LaidMore
import Derived.Stop.Joined
import Derived.SevenTiedAt
import Derived.WalkKit
import Derived.ProofKit
import Derived.OpenShut
import Derived.ShutString
import Derived.ChangeOld
import Derived.Below
import Derived.Test.YtalkhkhnpplofaaDoorArg
import Derived.Lib.Hide
import Derived.Deep.RegionHeld3
import Derived.Deep.QuietTactic
import Derived.BigQuiet
import Derived.WalkSmall
import Derived.Outline
import Derived.IntWalk
import Derived.StillTailTactics
import Derived.Handy
import Derived.Deep.Cut
import Derived.Deep.OwnRows
import Derived.Deep.RegionWith
import Derived.WalkLawsBesides
import Derived.WalkSpells
import Derived.Test.YtalkhkhnpplofaaDoorRolB
namespace Go.Proofs.YtalkhkhnpplofaaDoor.imagePairs
open Go.ChangeShapes Go.WideShapes Go.ChangeAt Go.RowKit
open Go.ChangeMaps (open_string shut_string)
set_option linter.unusedSimpArgs false
set_option linter.unusedVariables false

theorem own : ownKnob Tryd.prog.godebug = none := by kernel_rfl
theorem laidOut : laidOutB Tryd.prog = true := by kernel_rfl

/-- what the listed variables hold when the call begins -/
abbrev laidL {H : Type} : List (String × DataW H) := [("backstep/isa.table", Rows.laid_backstep_isa_table)]
theorem gno0 : Tryd.prog.globalNamed "backstep/isa.table" = some 0 := by kernel_rfl
theorem gty0 : (Tryd.prog.globals[0]?).map (·.type) = some 80 := by kernel_rfl
theorem door_met (os : Os) (args : Array Value) : laidMetH Tryd.prog laidL ((World.doorLaid Tryd.prog 400 os).forCall (fun _ _ => 0) ⟨#[], args, []⟩).memory :=
  laidMetH_of_parts3 (fuel := 8) (laidMet_of_run' 8 (by kernel_rfl) (by kernel_rfl)) (by kernel_rfl) (by kernel_rfl)

def Laid (W : World) : Prop := Go.Proofs.YtalkhkhnpplofaaDoor.Laid W
theorem of_laid {W : World} (h : laidMetH Tryd.prog laidL W) : Laid W := by
  rw [MakeChecks.laidMetH_plain _ _ _ (by kernel_rfl)] at h
  obtain ⟨ps, ⟨g0, t0, cs0, f0, p0, q0, hg0, ht0, hv0, hd0, _, _⟩, _, _⟩ := h
  obtain rfl := Option.some.inj (gno0.symm.trans hg0)
  obtain rfl := Option.some.inj (gty0.symm.trans ht0)
  intro n hn
  have hd : DataW.trod (fun _ : TypeId × Value => ()) Tryd.prog W 0 (fun _ => true) false f0 80 cs0.toList = some (Rows.laid_backstep_isa_table, p0) := hd0
  have hr := pair_at Tryd.underlying80 Tryd.underlying65 (by kernel_rfl) (by kernel_rfl) Tryd.underlying9 ⟨rfl, rfl⟩ ⟨rfl, rfl⟩ hd n _ _ (table_at n hn)
  rw [Array.getElem?_toList, Array.getElem?_toList] at hr
  exact ⟨(World.var?_cell hg0 hv0 (n * 2)).trans hr.1, (World.var?_cell hg0 hv0 (n * 2 + 1)).trans hr.2⟩

set_option maxRecDepth 100000 in
set_option maxHeartbeats 4000000 in
theorem walk (a : Option Addr) (n cap : Nat) (m s : Int) (l : List Ins) (w : World) (hn : l.length = n) (hb : n ≤ maxLen) (hS : SliceC w a l) (hw : WF l) (hL : Laid w) :
    Calls Tryd.prog 9 #[.agg #[.slice a n cap, .int .i64 m, .int .i64 s]] w fun e w' => e = .returned (.bool true) ∧ Below w.heap.size w w' := by
  have HS := Lib.hid hS
  have HL := Lib.hid hL
  have HN := Lib.hid hn
  have HB : Hid (Below w.heap.size w (w.alloc (.cells #[.slice a n cap, .int .i64 m, .int .i64 s] 24))) := Lib.hid ((Below.refl _ _).alloc (Nat.le_refl _) _)
  have c0 : (w.alloc (.cells #[.slice a n cap, .int .i64 m, .int .i64 s] 24)).cell? ⟨w.heap.size, 0, none⟩ = some (.slice a n cap) := by go_simp
  have c1 : (w.alloc (.cells #[.slice a n cap, .int .i64 m, .int .i64 s] 24)).cell? ⟨w.heap.size, 1, none⟩ = some (.int .i64 m) := by go_simp
  have c2 : (w.alloc (.cells #[.slice a n cap, .int .i64 m, .int .i64 s] 24)).cell? ⟨w.heap.size, 2, none⟩ = some (.int .i64 s) := by go_simp
  unfold maxLen at hb
  clear hS hL hn
  by_cases hg : (80 : Int) < (n : Int)
  · have HG := Lib.hid (decide_eq_true hg)
    go_enter Tryd.func9, Tryd.ntmps9
    go_wp2_with (first | (go_at_call 12; refine (awake_any _ (HL.out.below HB.out)).mono ?_; rintro e w1 ⟨rfl, hx⟩; replace HB := Lib.hid (below_on HB.out hx); replace c0 := cell_on hx c0; replace c1 := cell_on hx c1; replace c2 := cell_on hx c2; clear hx) | (go_at_call 13; refine (great_any _ _ _ _ _ _).mono ?_; rintro e w1 ⟨rfl, hx⟩; rw [HG.out]; replace HB := Lib.hid (below_on HB.out hx); replace c0 := cell_on hx c0; replace c1 := cell_on hx c1; replace c2 := cell_on hx c2; clear hx))
    go_ret
    exact ⟨rfl, HB.out⟩
  have HG := Lib.hid (decide_eq_false hg)
  by_cases hv : ckE l m s = 0
  case neg =>
    have HVB := Lib.hid (show (ckE l m s == 0) = false by simpa using hv)
    clear hv
    go_enter Tryd.func9, Tryd.ntmps9
    go_wp2_with (first | (go_at_call 12; refine (awake_any _ (HL.out.below HB.out)).mono ?_; rintro e w1 ⟨rfl, hx⟩; replace HB := Lib.hid (below_on HB.out hx); replace c0 := cell_on hx c0; replace c1 := cell_on hx c1; replace c2 := cell_on hx c2; clear hx) | (go_at_call 13; refine (great_any _ _ _ _ _ _).mono ?_; rintro e w1 ⟨rfl, hx⟩; rw [HG.out]; replace HB := Lib.hid (below_on HB.out hx); replace c0 := cell_on hx c0; replace c1 := cell_on hx c1; replace c2 := cell_on hx c2; clear hx) | (go_at_call 16; refine (valid_img _ n cap m s l _ (HS.out.below HB.out) HN.out hw (HL.out.below HB.out) (by omega)).mono ?_; rintro e w1 ⟨rfl, hx⟩; rw [HVB.out]; replace HB := Lib.hid (below_on HB.out hx); replace c0 := cell_on hx c0; replace c1 := cell_on hx c1; replace c2 := cell_on hx c2; clear hx))
    go_ret
    exact ⟨rfl, HB.out⟩
  have HVB := Lib.hid (show (ckE l m s == 0) = true by simpa using hv)
  have HE := Lib.hid hv
  have HR := Lib.hid (wd_ck.1 hv).1
  have HW := Lib.hid (wd_ck.1 hv).2
  clear hv
  have tok16 : True := trivial
  go_enter Tryd.func9, Tryd.ntmps9
  go_wp2_with (first | (go_at_call 12; refine (awake_any _ (HL.out.below HB.out)).mono ?_; rintro e w1 ⟨rfl, hx⟩; replace HB := Lib.hid (below_on HB.out hx); replace c0 := cell_on hx c0; replace c1 := cell_on hx c1; replace c2 := cell_on hx c2; clear hx) | (go_at_call 13; refine (great_any _ _ _ _ _ _).mono ?_; rintro e w1 ⟨rfl, hx⟩; rw [HG.out]; replace HB := Lib.hid (below_on HB.out hx); replace c0 := cell_on hx c0; replace c1 := cell_on hx c1; replace c2 := cell_on hx c2; clear hx) | (go_at_call 16; have _t := tok16; refine (valid_img _ n cap m s l _ (HS.out.below HB.out) HN.out hw (HL.out.below HB.out) (by omega)).mono ?_; rintro e w1 ⟨rfl, hx⟩; rw [HVB.out]; replace HB := Lib.hid (below_on HB.out hx); replace c0 := cell_on hx c0; replace c1 := cell_on hx c1; replace c2 := cell_on hx c2; clear hx tok16 _t))
  have HC := Lib.hid (And.intro c0 (And.intro c1 c2))
  clear c0 c1 c2
  go_loopw [23] (fun x23 wr => ∃ j : Nat, j ≤ n ∧ x23 = .int .i64 j ∧ Hid (Below w.heap.size w wr) ∧ Hid (wr.cell? ⟨w.heap.size, 0, none⟩ = some (.slice a n cap) ∧ wr.cell? ⟨w.heap.size, 1, none⟩ = some (.int .i64 m) ∧ wr.cell? ⟨w.heap.size, 2, none⟩ = some (.int .i64 s))) (fun x23 _ => n - (intOf x23).toNat)
  case atStart => exact ⟨0, by omega, rfl, HB, HC⟩
  case round =>
    clear HB HC
    rename_i x23 wr
    obtain ⟨j, hj, rfl, HB, HC⟩ := hrel
    by_cases hjn : j < n
    · have hdl : (j : Int) < (n : Int) := by omega
      obtain ⟨x, hx⟩ : ∃ x, l[j]? = some x := ⟨_, List.getElem?_eq_getElem (by have := HN.out; omega)⟩
      obtain ⟨b, o, rfl, hbl, d0, d1, d2, d3, d4⟩ := (HS.out.below HB.out).at hx
      have hkk := hw.at hx
      have hbs := HB.out.size
      replace HB := Lib.hid (HB.out.alloc hbs (.cells #[.int .u8 x.k, .int .i64 x.a, .int .i64 x.b, .int .i64 x.c, .int .i64 x.d] 39))
      have c0 := cell_on (below_new wr (.cells #[.int .u8 x.k, .int .i64 x.a, .int .i64 x.b, .int .i64 x.c, .int .i64 x.d] 39)) HC.out.1
      have c1 := cell_on (below_new wr (.cells #[.int .u8 x.k, .int .i64 x.a, .int .i64 x.b, .int .i64 x.c, .int .i64 x.d] 39)) HC.out.2.1
      have c2 := cell_on (below_new wr (.cells #[.int .u8 x.k, .int .i64 x.a, .int .i64 x.b, .int .i64 x.c, .int .i64 x.d] 39)) HC.out.2.2
      clear HC
      have q0 : (wr.alloc (.cells #[.int .u8 x.k, .int .i64 x.a, .int .i64 x.b, .int .i64 x.c, .int .i64 x.d] 39)).cell? ⟨wr.heap.size, 0, none⟩ = some (.int .u8 x.k) := by go_simp
      have q1 : (wr.alloc (.cells #[.int .u8 x.k, .int .i64 x.a, .int .i64 x.b, .int .i64 x.c, .int .i64 x.d] 39)).cell? ⟨wr.heap.size, 1, none⟩ = some (.int .i64 x.a) := by go_simp
      have q2 : (wr.alloc (.cells #[.int .u8 x.k, .int .i64 x.a, .int .i64 x.b, .int .i64 x.c, .int .i64 x.d] 39)).cell? ⟨wr.heap.size, 2, none⟩ = some (.int .i64 x.b) := by go_simp
      have q3 : (wr.alloc (.cells #[.int .u8 x.k, .int .i64 x.a, .int .i64 x.b, .int .i64 x.c, .int .i64 x.d] 39)).cell? ⟨wr.heap.size, 3, none⟩ = some (.int .i64 x.c) := by go_simp
      have q4 : (wr.alloc (.cells #[.int .u8 x.k, .int .i64 x.a, .int .i64 x.b, .int .i64 x.c, .int .i64 x.d] 39)).cell? ⟨wr.heap.size, 4, none⟩ = some (.int .i64 x.d) := by go_simp
      have HV := Lib.hid (show validB x.k x.a x.b x.c x.d = true from HW.out.vl j x hx)
      have tokP : True := trivial
      rcases rol_cases x.k with hr | hr | hr | hr | hr
      · obtain ⟨r1, r2, r3, r4⟩ := rolB0 hr
        have HP1 := Lib.hid (show part l (j : Int) = none by
          cases hp : part l (j : Int) with
          | none => rfl
          | some t => obtain ⟨q, _, hq⟩ := (part_iff l j t).1 hp; exact absurd hr (pr_role hq hx))
        by_cases hc : x.k = 30 ∨ x.k = 31
        · obtain ⟨p, e, hp, hs⟩ := HW.out.call j x hx hc
          have hpn : (p : Int) < (n : Int) := by have := hs.lt; have := HN.out; omega
          obtain ⟨y, hy⟩ : ∃ y, l[p]? = some y := ⟨_, List.getElem?_eq_getElem (by have := HN.out; omega)⟩
          have hyk : (y.k != 32) = false := by have := hs.2; rw [hy] at this; simpa using this
          obtain ⟨b', o', e', _, e0, _, _, _, _⟩ := (HS.out.below HB.out).at hy
          cases e'
          have HXJ := Lib.hid hp
          clear hx hy hs hr hp
          by_cases h30 : x.k = 30
          · have b30 : (x.k == 30) = true := by rw [beq_iff_eq]; exact h30
            clear hc h30
            go_wp2_with (first | (go_at_call 28; refine (isJump_any _ _).mono ?_; rintro e w1 ⟨rfl, rfl⟩) | (go_at_call 29; refine (isLanding_any _ _).mono ?_; rintro e w1 ⟨rfl, rfl⟩) | (go_at_call 17; have _t := tokP; refine (partner_any _ n cap l m s j _ (HS.out.below HB.out) HN.out hw (HL.out.below HB.out)).mono ?_; rintro e w1 ⟨rfl, hx⟩; rw [HP1.out]; replace HB := Lib.hid (below_on HB.out hx); replace c0 := cell_on hx c0; replace c1 := cell_on hx c1; replace c2 := cell_on hx c2; replace q0 := cell_on hx q0; replace q1 := cell_on hx q1; replace q2 := cell_on hx q2; replace q3 := cell_on hx q3; replace q4 := cell_on hx q4; replace e0 := cell_on hx e0; clear hx; clear tokP _t) | (go_at_call 30; refine (valid_any x.k x.a x.b x.c x.d _ hkk (HL.out.below HB.out)).mono ?_; rintro e w1 ⟨rfl, hx⟩; rw [HV.out]; replace HB := Lib.hid (below_on HB.out hx); replace c0 := cell_on hx c0; replace c1 := cell_on hx c1; replace c2 := cell_on hx c2; replace q0 := cell_on hx q0; replace q1 := (cell_on hx q1).trans (congrArg (fun z => some (Value.int .i64 z)) HXJ.out); replace q2 := cell_on hx q2; replace q3 := cell_on hx q3; replace q4 := cell_on hx q4; replace e0 := cell_on hx e0; clear hx))
            go_roundw
            case rel => exact ⟨j + 1, by omega, by go_num, HB, Lib.hid ⟨c0, c1, c2⟩⟩
            case measure => simp [intOf]; omega
          · have b30 : (x.k == 30) = false := by rw [beq_eq_false_iff_ne]; exact h30
            have b31 : (x.k == 31) = true := by rw [beq_iff_eq]; omega
            clear hc h30
            go_wp2_with (first | (go_at_call 28; refine (isJump_any _ _).mono ?_; rintro e w1 ⟨rfl, rfl⟩) | (go_at_call 29; refine (isLanding_any _ _).mono ?_; rintro e w1 ⟨rfl, rfl⟩) | (go_at_call 17; have _t := tokP; refine (partner_any _ n cap l m s j _ (HS.out.below HB.out) HN.out hw (HL.out.below HB.out)).mono ?_; rintro e w1 ⟨rfl, hx⟩; rw [HP1.out]; replace HB := Lib.hid (below_on HB.out hx); replace c0 := cell_on hx c0; replace c1 := cell_on hx c1; replace c2 := cell_on hx c2; replace q0 := cell_on hx q0; replace q1 := cell_on hx q1; replace q2 := cell_on hx q2; replace q3 := cell_on hx q3; replace q4 := cell_on hx q4; replace e0 := cell_on hx e0; clear hx; clear tokP _t) | (go_at_call 30; refine (valid_any x.k x.a x.b x.c x.d _ hkk (HL.out.below HB.out)).mono ?_; rintro e w1 ⟨rfl, hx⟩; rw [HV.out]; replace HB := Lib.hid (below_on HB.out hx); replace c0 := cell_on hx c0; replace c1 := cell_on hx c1; replace c2 := cell_on hx c2; replace q0 := cell_on hx q0; replace q1 := (cell_on hx q1).trans (congrArg (fun z => some (Value.int .i64 z)) HXJ.out); replace q2 := cell_on hx q2; replace q3 := cell_on hx q3; replace q4 := cell_on hx q4; replace e0 := cell_on hx e0; clear hx))
            go_roundw
            case rel => exact ⟨j + 1, by omega, by go_num, HB, Lib.hid ⟨c0, c1, c2⟩⟩
            case measure => simp [intOf]; omega
        · have b30 : (x.k == 30) = false := by rw [beq_eq_false_iff_ne]; omega
          have b31 : (x.k == 31) = false := by rw [beq_eq_false_iff_ne]; omega
          clear hx hr hc
          go_wp2_with (first | (go_at_call 28; refine (isJump_any _ _).mono ?_; rintro e w1 ⟨rfl, rfl⟩) | (go_at_call 29; refine (isLanding_any _ _).mono ?_; rintro e w1 ⟨rfl, rfl⟩) | (go_at_call 17; have _t := tokP; refine (partner_any _ n cap l m s j _ (HS.out.below HB.out) HN.out hw (HL.out.below HB.out)).mono ?_; rintro e w1 ⟨rfl, hx⟩; rw [HP1.out]; replace HB := Lib.hid (below_on HB.out hx); replace c0 := cell_on hx c0; replace c1 := cell_on hx c1; replace c2 := cell_on hx c2; replace q0 := cell_on hx q0; replace q1 := cell_on hx q1; replace q2 := cell_on hx q2; replace q3 := cell_on hx q3; replace q4 := cell_on hx q4; clear hx; clear tokP _t) | (go_at_call 30; refine (valid_any x.k x.a x.b x.c x.d _ hkk (HL.out.below HB.out)).mono ?_; rintro e w1 ⟨rfl, hx⟩; rw [HV.out]; replace HB := Lib.hid (below_on HB.out hx); replace c0 := cell_on hx c0; replace c1 := cell_on hx c1; replace c2 := cell_on hx c2; replace q0 := cell_on hx q0; replace q1 := cell_on hx q1; replace q2 := cell_on hx q2; replace q3 := cell_on hx q3; replace q4 := cell_on hx q4; clear hx))
          go_roundw
          case rel => exact ⟨j + 1, by omega, by go_num, HB, Lib.hid ⟨c0, c1, c2⟩⟩
          case measure => simp [intOf]; omega
      · obtain ⟨r1, r2, r3, r4, r5, r6⟩ := rolB1 hr
        obtain ⟨t, ht⟩ := HW.out.pair j x hx (by omega)
        have hts := ht.symm
        have hne := ht.ne
        have HP1 := Lib.hid ((part_iff l j (t : Int)).2 ⟨t, rfl, ht⟩)
        have HP2 := Lib.hid ((part_iff l t (j : Int)).2 ⟨j, rfl, hts⟩)
        have htn : (t : Int) < (n : Int) := by have := ht.lt.2; have := HN.out; omega
        obtain ⟨y, hy⟩ : ∃ y, l[t]? = some y := ⟨_, List.getElem?_eq_getElem (by have := HN.out; omega)⟩
        have hyr : rol y.k = 2 := by
          obtain ⟨x', y', g1, g2, _, _, _, _, _, g8, _⟩ := ht
          rw [hx] at g1; cases g1
          rw [hy] at g2; cases g2
          rw [g8, hr]; rfl
        obtain ⟨s1, s2, s3, s4, s5, s6⟩ := rolB2 hyr
        have htj : ((t : Int) == (j : Int)) = false := by rw [beq_eq_false_iff_ne]; omega
        obtain ⟨b', o', e', _, e0, _, _, _, _⟩ := (HS.out.below HB.out).at hy
        cases e'
        clear hx hy hr hyr ht hts hne
        go_wp2_with (first | (go_at_call 28; refine (isJump_any _ _).mono ?_; rintro e w1 ⟨rfl, rfl⟩) | (go_at_call 29; refine (isLanding_any _ _).mono ?_; rintro e w1 ⟨rfl, rfl⟩) | (go_at_call 17; have _t := tokP; refine (partner_any _ n cap l m s j _ (HS.out.below HB.out) HN.out hw (HL.out.below HB.out)).mono ?_; rintro e w1 ⟨rfl, hx⟩; rw [HP1.out]; replace HB := Lib.hid (below_on HB.out hx); replace c0 := cell_on hx c0; replace c1 := cell_on hx c1; replace c2 := cell_on hx c2; replace q0 := cell_on hx q0; replace q1 := cell_on hx q1; replace q2 := cell_on hx q2; replace q3 := cell_on hx q3; replace q4 := cell_on hx q4; replace e0 := cell_on hx e0; clear hx; clear tokP _t) | (go_at_call 17; refine (partner_any _ n cap l m s t _ (HS.out.below HB.out) HN.out hw (HL.out.below HB.out)).mono ?_; rintro e w1 ⟨rfl, hx⟩; rw [HP2.out]; replace HB := Lib.hid (below_on HB.out hx); replace c0 := cell_on hx c0; replace c1 := cell_on hx c1; replace c2 := cell_on hx c2; replace q0 := cell_on hx q0; replace q1 := cell_on hx q1; replace q2 := cell_on hx q2; replace q3 := cell_on hx q3; replace q4 := cell_on hx q4; replace e0 := cell_on hx e0; clear hx) | (go_at_call 30; refine (valid_any x.k x.a x.b x.c x.d _ hkk (HL.out.below HB.out)).mono ?_; rintro e w1 ⟨rfl, hx⟩; rw [HV.out]; replace HB := Lib.hid (below_on HB.out hx); replace c0 := cell_on hx c0; replace c1 := cell_on hx c1; replace c2 := cell_on hx c2; replace q0 := cell_on hx q0; replace q1 := cell_on hx q1; replace q2 := cell_on hx q2; replace q3 := cell_on hx q3; replace q4 := cell_on hx q4; replace e0 := cell_on hx e0; clear hx))
        go_roundw
        case rel => exact ⟨j + 1, by omega, by go_num, HB, Lib.hid ⟨c0, c1, c2⟩⟩
        case measure => simp [intOf]; omega
      · obtain ⟨r1, r2, r3, r4, r5, r6⟩ := rolB2 hr
        obtain ⟨t, ht⟩ := HW.out.pair j x hx (by omega)
        have hts := ht.symm
        have hne := ht.ne
        have HP1 := Lib.hid ((part_iff l j (t : Int)).2 ⟨t, rfl, ht⟩)
        have HP2 := Lib.hid ((part_iff l t (j : Int)).2 ⟨j, rfl, hts⟩)
        have htn : (t : Int) < (n : Int) := by have := ht.lt.2; have := HN.out; omega
        obtain ⟨y, hy⟩ : ∃ y, l[t]? = some y := ⟨_, List.getElem?_eq_getElem (by have := HN.out; omega)⟩
        have hyr : rol y.k = 1 := by
          obtain ⟨x', y', g1, g2, _, _, _, _, _, g8, _⟩ := ht
          rw [hx] at g1; cases g1
          rw [hy] at g2; cases g2
          rw [g8, hr]; rfl
        obtain ⟨s1, s2, s3, s4, s5, s6⟩ := rolB1 hyr
        have htj : ((t : Int) == (j : Int)) = false := by rw [beq_eq_false_iff_ne]; omega
        obtain ⟨b', o', e', _, e0, _, _, _, _⟩ := (HS.out.below HB.out).at hy
        cases e'
        clear hx hy hr hyr ht hts hne
        go_wp2_with (first | (go_at_call 28; refine (isJump_any _ _).mono ?_; rintro e w1 ⟨rfl, rfl⟩) | (go_at_call 29; refine (isLanding_any _ _).mono ?_; rintro e w1 ⟨rfl, rfl⟩) | (go_at_call 17; have _t := tokP; refine (partner_any _ n cap l m s j _ (HS.out.below HB.out) HN.out hw (HL.out.below HB.out)).mono ?_; rintro e w1 ⟨rfl, hx⟩; rw [HP1.out]; replace HB := Lib.hid (below_on HB.out hx); replace c0 := cell_on hx c0; replace c1 := cell_on hx c1; replace c2 := cell_on hx c2; replace q0 := cell_on hx q0; replace q1 := cell_on hx q1; replace q2 := cell_on hx q2; replace q3 := cell_on hx q3; replace q4 := cell_on hx q4; replace e0 := cell_on hx e0; clear hx; clear tokP _t) | (go_at_call 17; refine (partner_any _ n cap l m s t _ (HS.out.below HB.out) HN.out hw (HL.out.below HB.out)).mono ?_; rintro e w1 ⟨rfl, hx⟩; rw [HP2.out]; replace HB := Lib.hid (below_on HB.out hx); replace c0 := cell_on hx c0; replace c1 := cell_on hx c1; replace c2 := cell_on hx c2; replace q0 := cell_on hx q0; replace q1 := cell_on hx q1; replace q2 := cell_on hx q2; replace q3 := cell_on hx q3; replace q4 := cell_on hx q4; replace e0 := cell_on hx e0; clear hx) | (go_at_call 30; refine (valid_any x.k x.a x.b x.c x.d _ hkk (HL.out.below HB.out)).mono ?_; rintro e w1 ⟨rfl, hx⟩; rw [HV.out]; replace HB := Lib.hid (below_on HB.out hx); replace c0 := cell_on hx c0; replace c1 := cell_on hx c1; replace c2 := cell_on hx c2; replace q0 := cell_on hx q0; replace q1 := cell_on hx q1; replace q2 := cell_on hx q2; replace q3 := cell_on hx q3; replace q4 := cell_on hx q4; replace e0 := cell_on hx e0; clear hx))
        go_roundw
        case rel => exact ⟨j + 1, by omega, by go_num, HB, Lib.hid ⟨c0, c1, c2⟩⟩
        case measure => simp [intOf]; omega
      · obtain ⟨r1, r2, r3, r4, r5, r6⟩ := rolB3 hr
        obtain ⟨t, ht⟩ := HW.out.pair j x hx (by omega)
        have hts := ht.symm
        have hne := ht.ne
        have HP1 := Lib.hid ((part_iff l j (t : Int)).2 ⟨t, rfl, ht⟩)
        have HP2 := Lib.hid ((part_iff l t (j : Int)).2 ⟨j, rfl, hts⟩)
        have htn : (t : Int) < (n : Int) := by have := ht.lt.2; have := HN.out; omega
        obtain ⟨y, hy⟩ : ∃ y, l[t]? = some y := ⟨_, List.getElem?_eq_getElem (by have := HN.out; omega)⟩
        have hyr : rol y.k = 4 := by
          obtain ⟨x', y', g1, g2, _, _, _, _, _, g8, _⟩ := ht
          rw [hx] at g1; cases g1
          rw [hy] at g2; cases g2
          rw [g8, hr]; rfl
        obtain ⟨s1, s2, s3, s4, s5, s6⟩ := rolB4 hyr
        have htj : ((t : Int) == (j : Int)) = false := by rw [beq_eq_false_iff_ne]; omega
        obtain ⟨b', o', e', _, e0, _, _, _, _⟩ := (HS.out.below HB.out).at hy
        cases e'
        clear hx hy hr hyr ht hts hne
        go_wp2_with (first | (go_at_call 28; refine (isJump_any _ _).mono ?_; rintro e w1 ⟨rfl, rfl⟩) | (go_at_call 29; refine (isLanding_any _ _).mono ?_; rintro e w1 ⟨rfl, rfl⟩) | (go_at_call 17; have _t := tokP; refine (partner_any _ n cap l m s j _ (HS.out.below HB.out) HN.out hw (HL.out.below HB.out)).mono ?_; rintro e w1 ⟨rfl, hx⟩; rw [HP1.out]; replace HB := Lib.hid (below_on HB.out hx); replace c0 := cell_on hx c0; replace c1 := cell_on hx c1; replace c2 := cell_on hx c2; replace q0 := cell_on hx q0; replace q1 := cell_on hx q1; replace q2 := cell_on hx q2; replace q3 := cell_on hx q3; replace q4 := cell_on hx q4; replace e0 := cell_on hx e0; clear hx; clear tokP _t) | (go_at_call 17; refine (partner_any _ n cap l m s t _ (HS.out.below HB.out) HN.out hw (HL.out.below HB.out)).mono ?_; rintro e w1 ⟨rfl, hx⟩; rw [HP2.out]; replace HB := Lib.hid (below_on HB.out hx); replace c0 := cell_on hx c0; replace c1 := cell_on hx c1; replace c2 := cell_on hx c2; replace q0 := cell_on hx q0; replace q1 := cell_on hx q1; replace q2 := cell_on hx q2; replace q3 := cell_on hx q3; replace q4 := cell_on hx q4; replace e0 := cell_on hx e0; clear hx) | (go_at_call 30; refine (valid_any x.k x.a x.b x.c x.d _ hkk (HL.out.below HB.out)).mono ?_; rintro e w1 ⟨rfl, hx⟩; rw [HV.out]; replace HB := Lib.hid (below_on HB.out hx); replace c0 := cell_on hx c0; replace c1 := cell_on hx c1; replace c2 := cell_on hx c2; replace q0 := cell_on hx q0; replace q1 := cell_on hx q1; replace q2 := cell_on hx q2; replace q3 := cell_on hx q3; replace q4 := cell_on hx q4; replace e0 := cell_on hx e0; clear hx))
        go_roundw
        case rel => exact ⟨j + 1, by omega, by go_num, HB, Lib.hid ⟨c0, c1, c2⟩⟩
        case measure => simp [intOf]; omega
      · obtain ⟨r1, r2, r3, r4, r5, r6⟩ := rolB4 hr
        obtain ⟨t, ht⟩ := HW.out.pair j x hx (by omega)
        have hts := ht.symm
        have hne := ht.ne
        have HP1 := Lib.hid ((part_iff l j (t : Int)).2 ⟨t, rfl, ht⟩)
        have HP2 := Lib.hid ((part_iff l t (j : Int)).2 ⟨j, rfl, hts⟩)
        have htn : (t : Int) < (n : Int) := by have := ht.lt.2; have := HN.out; omega
        obtain ⟨y, hy⟩ : ∃ y, l[t]? = some y := ⟨_, List.getElem?_eq_getElem (by have := HN.out; omega)⟩
        have hyr : rol y.k = 3 := by
          obtain ⟨x', y', g1, g2, _, _, _, _, _, g8, _⟩ := ht
          rw [hx] at g1; cases g1
          rw [hy] at g2; cases g2
          rw [g8, hr]; rfl
        obtain ⟨s1, s2, s3, s4, s5, s6⟩ := rolB3 hyr
        have htj : ((t : Int) == (j : Int)) = false := by rw [beq_eq_false_iff_ne]; omega
        obtain ⟨b', o', e', _, e0, _, _, _, _⟩ := (HS.out.below HB.out).at hy
        cases e'
        clear hx hy hr hyr ht hts hne
        go_wp2_with (first | (go_at_call 28; refine (isJump_any _ _).mono ?_; rintro e w1 ⟨rfl, rfl⟩) | (go_at_call 29; refine (isLanding_any _ _).mono ?_; rintro e w1 ⟨rfl, rfl⟩) | (go_at_call 17; have _t := tokP; refine (partner_any _ n cap l m s j _ (HS.out.below HB.out) HN.out hw (HL.out.below HB.out)).mono ?_; rintro e w1 ⟨rfl, hx⟩; rw [HP1.out]; replace HB := Lib.hid (below_on HB.out hx); replace c0 := cell_on hx c0; replace c1 := cell_on hx c1; replace c2 := cell_on hx c2; replace q0 := cell_on hx q0; replace q1 := cell_on hx q1; replace q2 := cell_on hx q2; replace q3 := cell_on hx q3; replace q4 := cell_on hx q4; replace e0 := cell_on hx e0; clear hx; clear tokP _t) | (go_at_call 17; refine (partner_any _ n cap l m s t _ (HS.out.below HB.out) HN.out hw (HL.out.below HB.out)).mono ?_; rintro e w1 ⟨rfl, hx⟩; rw [HP2.out]; replace HB := Lib.hid (below_on HB.out hx); replace c0 := cell_on hx c0; replace c1 := cell_on hx c1; replace c2 := cell_on hx c2; replace q0 := cell_on hx q0; replace q1 := cell_on hx q1; replace q2 := cell_on hx q2; replace q3 := cell_on hx q3; replace q4 := cell_on hx q4; replace e0 := cell_on hx e0; clear hx) | (go_at_call 30; refine (valid_any x.k x.a x.b x.c x.d _ hkk (HL.out.below HB.out)).mono ?_; rintro e w1 ⟨rfl, hx⟩; rw [HV.out]; replace HB := Lib.hid (below_on HB.out hx); replace c0 := cell_on hx c0; replace c1 := cell_on hx c1; replace c2 := cell_on hx c2; replace q0 := cell_on hx q0; replace q1 := cell_on hx q1; replace q2 := cell_on hx q2; replace q3 := cell_on hx q3; replace q4 := cell_on hx q4; replace e0 := cell_on hx e0; clear hx))
        go_roundw
        case rel => exact ⟨j + 1, by omega, by go_num, HB, Lib.hid ⟨c0, c1, c2⟩⟩
        case measure => simp [intOf]; omega
    · obtain rfl : j = n := by omega
      go_wp2
      go_ret
      exact ⟨rfl, HB.out⟩

set_option maxRecDepth 100000 in
theorem lifted (os : Os) (started : os.Started) (H : Type) (enc : TypeId × Value → H) :
    ReturnsInHanded {} Tryd.checked os 9 .any (fun w args => (Rows.imagePairsSpec.pre enc Tryd.prog Tryd.f9 [] false w args ∧ laidMetH Tryd.prog laidL w) ∧ sizedMet enc Tryd.prog Tryd.f9 (OpenSpec.ofChange Rows.imagePairsSpec) false w args)
      (Rows.imagePairsSpec.post enc Tryd.prog Tryd.f9 false true false false) := by
  refine returnsInHanded_of_change_and (C := Tryd.checked) (X := fun w _ => laidMetH Tryd.prog laidL w) (fun _ _ _ hh h => h.of_heap hh) own started (by kernel_rfl) Tryd.func9
    (ChangeSpec.witness_shaped (enc := enc) (C := Tryd.checked) (os := os) (X := fun w _ => laidMetH Tryd.prog laidL w) false (World.doorLaid Tryd.prog 400 os) #[.agg #[.slice none 0 0, .int .i64 0, .int .i64 0]] 8 rfl (World.shaped_of_RefB (by kernel_rfl) (by kernel_rfl)) (by kernel_rfl) (by kernel_rfl) (by kernel_rfl) (door_met os _)) ?_
  intro W base args ds gs before hval0 hW _ _ hLm _
  have hL := of_laid hLm
  have hval : ∀ (j : Nat) t v, Tryd.f9.params[j]? = some t → args[j]? = some v → Value.okWide Tryd.prog W .any base t v := hval0
  have hW' := hW
  obtain ⟨p, q, hA0, hV, rfl, hfz, hnd⟩ := hW
  have hA : DataW.TrodAll enc Tryd.prog W 0 (fun _ => true) true Tryd.f9.params.toList args.toList ds p := hA0
  rw [Tryd.params9] at hA hval
  obtain ⟨v0, vs0, d0, ds0, p0, q0, hargs, rfl, rfl, h0, r0⟩ := trodAll_cons hA
  obtain ⟨rfl, rfl, rfl⟩ := trodAll_nil r0
  obtain rfl : args = #[v0] := by cases args; simp_all
  obtain ⟨rfl, rfl⟩ := trodVars_none hV
  have k0 := h0
  have lt0 : ∀ x ∈ p0, x.block < W.heap.size := by obtain ⟨m, hm⟩ := k0; exact DataW.trod_lt m _ _ _ hm
  obtain ⟨a, n, cap, m, s, l, rfl, hn, hb, hS, hw⟩ := open_image (hval 0 24 v0 rfl rfl) h0
  clear hA0 hval0
  refine (walk a n cap m s l W hn hb hS hw hL).mono fun e W' ⟨he, bel⟩ => ?_
  subst he
  exact ⟨_, rfl, _, _, _, [], _, [], hW', trodAll_mk1 (shut_bool Tryd.underlying4 _), (trodAll_cons_mk (Below.trod laidOut (by kernel_rfl) (of_decide_eq_true (by kernel_rfl)) k0 bel lt0) trodAll_mk0), rfl, bel.frame _, fun h => by cases h⟩

theorem over : Rows.imagePairsRow.holds Tryd.pinned (OpenSpec.ofChange Rows.imagePairsSpec) :=
  OpenClaim.holds_of_wide 9 Tryd.f9 rfl rfl rfl rfl rfl rfl rfl ⟨rfl, rfl, rfl, rfl, rfl⟩ rfl rfl rfl rfl rfl (by kernel_rfl) Tryd.func9 (by kernel_rfl)
    (of_decide_eq_true (by kernel_rfl)) (by unfold Func.isWrapper; first | (rw [if_pos (by decide +kernel)]; kernel_rfl) | (rw [if_neg (by decide +kernel)]; exact ⟨rfl, rfl⟩))
    (fun os started H enc _ => lifted os started H enc)

theorem proved : Rows.ImagePairsCardSaid :=
  Claim7.holds_tied_plain_at .later [] [.data] true (true, "e81659936c82e3a671cfc7106131e0789ef7ada7cc59735c1fc83ffbcfb7ed7d") false
    over (fun _ h => by cases h) (by kernel_rfl) (fun _ h => by cases h) imagePairs_row_tie rfl ⟨rfl, rfl⟩ (by kernel_rfl) rfl
    (fun f fn hf hfn => by
      obtain rfl : f = 9 := Option.some.inj ((show Tryd.prog.funcNamed "backstep/backsteplaw23.ImagePairs" = some 9 by kernel_rfl).symm.trans hf) |>.symm
      obtain rfl : fn = Tryd.f9 := (Option.some.inj (Tryd.func9.symm.trans hfn)).symm
      exact ⟨by kernel_rfl, fun j t ht => by
        rw [Tryd.params9] at ht
        have hm : t ∈ [24] := by simpa using Array.mem_of_getElem? ht
        have hall : ([24].all fun u => !Tryd.prog.wantsStandIn u) = true := by kernel_rfl
        exact (show Tryd.prog.wantsStandIn t = false by simpa using List.all_eq_true.1 hall t hm)⟩)
    (by kernel_rfl)
#print axioms proved
end Go.Proofs.YtalkhkhnpplofaaDoor.imagePairs
