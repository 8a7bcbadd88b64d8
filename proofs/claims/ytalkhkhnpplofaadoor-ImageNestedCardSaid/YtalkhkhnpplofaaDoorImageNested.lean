/- The tied card of ImageNested: it answers true for every image, where the table of instructions holds what the program's text lays in it. -/
import Derived.Test.YtalkhkhnpplofaaDoorRows
import Derived.Test.YtalkhkhnpplofaaDoorCards
import Derived.Test.YtalkhkhnpplofaaDoorTie
import Derived.LaidMore
import Derived.Stop.Joined
import Derived.SevenTiedAt
import Derived.WalkKit
import Derived.ProofKit
import Derived.OpenShut
import Derived.ShutString
import Derived.ChangeOld
import Derived.Below
import Derived.Test.YtalkhkhnpplofaaDoorArg
import Derived.Lib.Hide
import Derived.Deep.RegionHeld3
import Derived.Deep.QuietTactic
import Derived.BigQuiet
import Derived.WalkSmall
import Derived.Outline
import Derived.IntWalk
import Derived.StillTailTactics
import Derived.Handy
import Derived.Deep.Cut
import Derived.Deep.OwnRows
import Derived.Deep.RegionWith
import Derived.WalkLawsBesides
import Derived.WalkSpells
import Derived.Test.YtalkhkhnpplofaaDoorCov
namespace Go.Proofs.YtalkhkhnpplofaaDoor.imageNested
open Go.ChangeShapes Go.WideShapes Go.ChangeAt Go.RowKit
open Go.ChangeMaps (open_string shut_string)
set_option linter.unusedSimpArgs false
set_option linter.unusedVariables false

theorem own : ownKnob Tryd.prog.godebug = none := by kernel_rfl
theorem laidOut : laidOutB Tryd.prog = true := by kernel_rfl

/-- what the listed variables hold when the call begins -/
abbrev laidL {H : Type} : List (String × DataW H) := [("backstep/isa.table", Rows.laid_backstep_isa_table)]
theorem gno0 : Tryd.prog.globalNamed "backstep/isa.table" = some 0 := by kernel_rfl
theorem gty0 : (Tryd.prog.globals[0]?).map (·.type) = some 80 := by kernel_rfl
theorem door_met (os : Os) (args : Array Value) : laidMetH Tryd.prog laidL ((World.doorLaid Tryd.prog 400 os).forCall (fun _ _ => 0) ⟨#[], args, []⟩).memory :=
  laidMetH_of_parts3 (fuel := 8) (laidMet_of_run' 8 (by kernel_rfl) (by kernel_rfl)) (by kernel_rfl) (by kernel_rfl)
theorem isJump_is (k : Int) (b : Bool) (h : jmp k = b) (w : World) : Calls Tryd.prog 28 #[.int .u8 k] w fun e w' => e = .returned (.bool b) ∧ w' = w := by subst h; exact (isJump_any k w).mono fun _ _ ⟨a, b⟩ => ⟨a, b.symm⟩
theorem isLanding_is (k : Int) (b : Bool) (h : lnd k = b) (w : World) : Calls Tryd.prog 29 #[.int .u8 k] w fun e w' => e = .returned (.bool b) ∧ w' = w := by subst h; exact (isLanding_any k w).mono fun _ _ ⟨a, b⟩ => ⟨a, b.symm⟩
theorem _root_.Go.Proofs.YtalkhkhnpplofaaDoor.NS.drewN {w : World} {g n : Nat} {a : Option Addr} {cap : Nat} {m s : Int} {wr : World} {F : Nat → Int} (h : NS w g n a cap m s wr F) (q : Nat) : NS w g n a cap m s (wr.drewN q) F :=
  ⟨h.img, h.row, below_drewN h.bel, h.lt⟩

def Laid (W : World) : Prop := Go.Proofs.YtalkhkhnpplofaaDoor.Laid W
theorem of_laid {W : World} (h : laidMetH Tryd.prog laidL W) : Laid W := by
  rw [MakeChecks.laidMetH_plain _ _ _ (by kernel_rfl)] at h
  obtain ⟨ps, ⟨g0, t0, cs0, f0, p0, q0, hg0, ht0, hv0, hd0, _, _⟩, _, _⟩ := h
  obtain rfl := Option.some.inj (gno0.symm.trans hg0)
  obtain rfl := Option.some.inj (gty0.symm.trans ht0)
  intro n hn
  have hd : DataW.trod (fun _ : TypeId × Value => ()) Tryd.prog W 0 (fun _ => true) false f0 80 cs0.toList = some (Rows.laid_backstep_isa_table, p0) := hd0
  have hr := pair_at Tryd.underlying80 Tryd.underlying65 (by kernel_rfl) (by kernel_rfl) Tryd.underlying9 ⟨rfl, rfl⟩ ⟨rfl, rfl⟩ hd n _ _ (table_at n hn)
  rw [Array.getElem?_toList, Array.getElem?_toList] at hr
  exact ⟨(World.var?_cell hg0 hv0 (n * 2)).trans hr.1, (World.var?_cell hg0 hv0 (n * 2 + 1)).trans hr.2⟩

set_option maxRecDepth 100000 in
set_option maxHeartbeats 2000000 in
theorem walk (a : Option Addr) (n cap : Nat) (m s : Int) (l : List Ins) (w : World) (hn : l.length = n) (hb : n ≤ maxLen) (hS : SliceC w a l) (hw : WF l) (hL : Laid w) :
    Calls Tryd.prog 10 #[.agg #[.slice a n cap, .int .i64 m, .int .i64 s]] w fun e w' => e = .returned (.bool true) ∧ Below w.heap.size w w' := by
  have HS := Lib.hid hS
  have HL := Lib.hid hL
  have HN := Lib.hid hn
  have HB : Hid (Below w.heap.size w (w.alloc (.cells #[.slice a n cap, .int .i64 m, .int .i64 s] 24))) := Lib.hid ((Below.refl _ _).alloc (Nat.le_refl _) _)
  have c0 : (w.alloc (.cells #[.slice a n cap, .int .i64 m, .int .i64 s] 24)).cell? ⟨w.heap.size, 0, none⟩ = some (.slice a n cap) := by go_simp
  have c1 : (w.alloc (.cells #[.slice a n cap, .int .i64 m, .int .i64 s] 24)).cell? ⟨w.heap.size, 1, none⟩ = some (.int .i64 m) := by go_simp
  have c2 : (w.alloc (.cells #[.slice a n cap, .int .i64 m, .int .i64 s] 24)).cell? ⟨w.heap.size, 2, none⟩ = some (.int .i64 s) := by go_simp
  unfold maxLen at hb
  clear hS hL hn
  by_cases hg : (80 : Int) < (n : Int)
  · have HG := Lib.hid (decide_eq_true hg)
    go_enter Tryd.func10, Tryd.ntmps10
    go_wp2_with (first | (go_at_call 12; refine (awake_any _ (HL.out.below HB.out)).mono ?_; rintro e w1 ⟨rfl, hx⟩; replace HB := Lib.hid (below_on HB.out hx); replace c0 := cell_on hx c0; replace c1 := cell_on hx c1; replace c2 := cell_on hx c2; clear hx) | (go_at_call 13; refine (great_any _ _ _ _ _ _).mono ?_; rintro e w1 ⟨rfl, hx⟩; rw [HG.out]; replace HB := Lib.hid (below_on HB.out hx); replace c0 := cell_on hx c0; replace c1 := cell_on hx c1; replace c2 := cell_on hx c2; clear hx))
    go_ret
    exact ⟨rfl, HB.out⟩
  have HG := Lib.hid (decide_eq_false hg)
  by_cases hv : ckE l m s = 0
  case neg =>
    have HVB := Lib.hid (show (ckE l m s == 0) = false by simpa using hv)
    clear hv
    go_enter Tryd.func10, Tryd.ntmps10
    go_wp2_with (first | (go_at_call 12; refine (awake_any _ (HL.out.below HB.out)).mono ?_; rintro e w1 ⟨rfl, hx⟩; replace HB := Lib.hid (below_on HB.out hx); replace c0 := cell_on hx c0; replace c1 := cell_on hx c1; replace c2 := cell_on hx c2; clear hx) | (go_at_call 13; refine (great_any _ _ _ _ _ _).mono ?_; rintro e w1 ⟨rfl, hx⟩; rw [HG.out]; replace HB := Lib.hid (below_on HB.out hx); replace c0 := cell_on hx c0; replace c1 := cell_on hx c1; replace c2 := cell_on hx c2; clear hx) | (go_at_call 16; refine (valid_img _ n cap m s l _ (HS.out.below HB.out) HN.out hw (HL.out.below HB.out) (by omega)).mono ?_; rintro e w1 ⟨rfl, hx⟩; rw [HVB.out]; replace HB := Lib.hid (below_on HB.out hx); replace c0 := cell_on hx c0; replace c1 := cell_on hx c1; replace c2 := cell_on hx c2; clear hx))
    go_ret
    exact ⟨rfl, HB.out⟩
  have HVB := Lib.hid (show (ckE l m s == 0) = true by simpa using hv)
  have HE := Lib.hid hv
  have HR := Lib.hid (wd_ck.1 hv).1
  have HW := Lib.hid (wd_ck.1 hv).2
  clear hv
  have hmake := fun w => run_makeN (P := Tryd.prog) 35 3 (.int .i64 0) 1 8 Tryd.underlying35 Tryd.info3 n (by omega) (by omega) w
  obtain ⟨N, hN⟩ : ∃ N, (pcs l n).length = N := ⟨_, rfl⟩
  have HPL := Lib.hid hN
  have hNn : N ≤ 80 := by have := pcs_len l n; omega
  have tok16 : True := trivial
  clear hN
  go_enter Tryd.func10, Tryd.ntmps10
  go_wp2_with (first | (go_at_call 12; refine (awake_any _ (HL.out.below HB.out)).mono ?_; rintro e w1 ⟨rfl, hx⟩; replace HB := Lib.hid (below_on HB.out hx); replace c0 := cell_on hx c0; replace c1 := cell_on hx c1; replace c2 := cell_on hx c2; clear hx) | (go_at_call 13; refine (great_any _ _ _ _ _ _).mono ?_; rintro e w1 ⟨rfl, hx⟩; rw [HG.out]; replace HB := Lib.hid (below_on HB.out hx); replace c0 := cell_on hx c0; replace c1 := cell_on hx c1; replace c2 := cell_on hx c2; clear hx) | (go_at_call 16; have _t := tok16; refine (valid_img _ n cap m s l _ (HS.out.below HB.out) HN.out hw (HL.out.below HB.out) (by omega)).mono ?_; rintro e w1 ⟨rfl, hx⟩; rw [HVB.out]; replace HB := Lib.hid (below_on HB.out hx); replace c0 := cell_on hx c0; replace c1 := cell_on hx c1; replace c2 := cell_on hx c2; clear hx tok16 _t))
  clear hmake
  have HNS : Hid (NS w w1.heap.size n a cap m s (w1.alloc (.cells (madeCells #[.int .i64 0] n) 3)) (fun p => if p < 0 then -1 else 0)) := by
    have hb := below_new w1 (.cells (madeCells #[.int .i64 0] n) 3)
    have hz := World.block_lt_of_cell? _ _ c0
    refine Lib.hid ⟨⟨cell_on hb c0, cell_on hb c1, cell_on hb c2⟩, World.rowIs_made _ _ _ _, below_on HB.out hb, hz⟩
  obtain ⟨g, hg⟩ : ∃ x, x = w1.heap.size := ⟨_, rfl⟩
  rw [← hg] at HNS
  rw [← hg]
  generalize w1.alloc (.cells (madeCells #[.int .i64 0] n) 3) = W at *
  clear hg c0 c1 c2 HB
  go_loopw [29] (fun x29 wa => ∃ k : Nat, k ≤ n ∧ x29 = .int .i64 k ∧ Hid (NS w g n a cap m s wa (fun p => if p < k then -1 else 0))) (fun x29 _ => n - (intOf x29).toNat)
  case atStart => exact ⟨0, by omega, rfl, HNS⟩
  case round =>
    clear HNS
    obtain ⟨wa, rfl⟩ : ∃ wa : World, wa = wr := ⟨_, rfl⟩
    obtain ⟨k, hk, rfl, HNS⟩ := hrel
    by_cases hkn : k < n
    · have hdl : (k : Int) < (n : Int) := by omega
      obtain ⟨z0, z1, hset⟩ := HNS.out.set (z := -1) hkn
      have HNS2 := Lib.hid (hset.congr (G := fun p => if p < k + 1 then -1 else 0) (fun p hp => by
        by_cases e1 : p = k
        · rw [if_pos e1, if_pos (by omega)]
        · rw [if_neg e1]
          by_cases e2 : p < k
          · rw [if_pos e2, if_pos (by omega)]
          · rw [if_neg e2, if_neg (by omega)]))
      clear hset
      go_wp2
      go_roundw
      case rel => exact ⟨k + 1, by omega, by go_num, HNS2⟩
      case measure => simp [intOf]; omega
    obtain rfl : k = n := by omega
    replace HNS := Lib.hid (HNS.out.congr (G := vq l k 0) (fun p hp => by rw [vq_zero, if_pos hp]))
    obtain ⟨c0, c1, c2⟩ := HNS.out.img
    go_wp2_with ((go_at_call 19; refine (procs_any _ k cap m s l _ (HS.out.below HNS.out.bel) HN.out (by omega)).mono ?_; rintro e w1 ⟨v, rfl, ho, hx⟩; obtain ⟨ap, cp, rfl, hsn⟩ := own_sliceM ho; rw [HPL.out]; have HP := Lib.hid hsn; have HGB := Lib.hid HNS.out.row.lt; replace HNS := Lib.hid (HNS.out.below hx); clear hx ho hsn))
    clear c0 c1 c2
    obtain ⟨B, hB⟩ : ∃ B, B = wa.heap.size := ⟨_, rfl⟩
    rw [← hB] at HP HGB
    clear hB
    go_loopw [39] (fun x39 wb => ∃ q : Nat, q ≤ N ∧ x39 = .int .i64 q ∧ Hid (NS w g k a cap m s wb (vq l k q)) ∧ Hid (SliceM wb B ap (pcs l k))) (fun x39 _ => N - (intOf x39).toNat)
    case atStart => exact ⟨0, by omega, rfl, HNS, HP⟩
    case round =>
      clear HNS HP
      obtain ⟨wb, rfl⟩ : ∃ wb : World, wb = wr := ⟨_, rfl⟩
      obtain ⟨q, hq, rfl, HNS, HP⟩ := hrel
      by_cases hqn : q < N
      · have hdl : (q : Int) < (N : Int) := by omega
        obtain ⟨s0, hs0⟩ : ∃ s0, (pcs l k)[q]? = some s0 := ⟨_, List.getElem?_eq_getElem (by have := HPL.out; omega)⟩
        have hm := pcs_mem (List.mem_of_getElem? hs0)
        obtain ⟨e, he⟩ := HW.out.start hm.2
        have hel := he.lt
        have hen : e < k := by have := HN.out; omega
        have hse : s0 < e := hel.1
        have hd1 : decide ((e : Int) ≤ (s0 : Int)) = false := by simp; omega
        have HP1 := Lib.hid ((part_iff l s0 (e : Int)).2 ⟨e, rfl, he.1⟩)
        have HST := Lib.hid (And.intro hs0 he)
        obtain ⟨g', rfl, hcell⟩ := HP.out.at hs0
        obtain ⟨c0, c1, c2⟩ := HNS.out.img
        clear hs0 hm he hel
        go_wp2_with ((go_at_call 17; refine (partner_any _ k cap l m s s0 _ (HS.out.below HNS.out.bel) HN.out hw (HL.out.below HNS.out.bel)).mono ?_; rintro e w1 ⟨rfl, hx⟩; rw [HP1.out]; replace HNS := Lib.hid (HNS.out.below hx); replace HP := Lib.hid (HP.out.below hx); clear hx))
        clear c0 c1 c2 hcell
        go_loopw [9] (fun x9 wd => ∃ i : Nat, s0 ≤ i ∧ i ≤ e + 1 ∧ x9 = .int .i64 i ∧ Hid (NS w g k a cap m s wd (fun p => if s0 ≤ p ∧ p < i then (s0 : Int) else vq l k q p)) ∧ Hid (SliceM wd B (some ⟨g', 0, none⟩) (pcs l k))) (fun x9 _ => e + 1 - (intOf x9).toNat)
        case atStart => exact ⟨s0, by omega, by omega, rfl, Lib.hid (HNS.out.congr (fun p hp => by rw [if_neg (by omega)])), HP⟩
        case round =>
          clear HNS HP
          obtain ⟨wd, rfl⟩ : ∃ wd : World, wd = wr := ⟨_, rfl⟩
          obtain ⟨i, hi1, hi2, rfl, HNS, HP⟩ := hrel
          by_cases hie : i ≤ e
          · have hin : (i : Int) < (k : Int) := by omega
            have hd2 : decide ((i : Int) ≤ (e : Int)) = true := by simp; omega
            obtain ⟨z0, z1, hset⟩ := HNS.out.set (p := i) (z := (s0 : Int)) (by omega)
            rw [if_neg (by omega), vq_free HW.out HST.out.1 HST.out.2 hi1 hie] at z0
            have HNS2 := Lib.hid (hset.congr (G := fun p => if s0 ≤ p ∧ p < i + 1 then (s0 : Int) else vq l k q p) (fun p hp => by
              by_cases e1 : p = i
              · rw [if_pos e1, if_pos (by omega)]
              · rw [if_neg e1]
                by_cases e2 : s0 ≤ p ∧ p < i
                · rw [if_pos e2, if_pos (by omega)]
                · rw [if_neg e2, if_neg (by omega)]))
            have HP2 := Lib.hid (HP.out.set (b := g) (o := i) (v := .int .i64 (s0 : Int)) HGB.out)
            clear hset
            go_wp2
            go_roundw
            case rel => exact ⟨i + 1, by omega, by omega, by go_num, HNS2, HP2⟩
            case measure => simp [intOf]; omega
          · have hd2 : decide ((i : Int) ≤ (e : Int)) = false := by simp; omega
            obtain rfl : i = e + 1 := by omega
            go_wp2
            go_roundw
            case rel => exact ⟨q + 1, by omega, by go_num, Lib.hid (HNS.out.congr (fun p hp => vq_next HW.out HST.out.1 HST.out.2)), HP⟩
            case measure => simp [intOf]; omega
      obtain rfl : q = N := by omega
      obtain ⟨c0, c1, c2⟩ := HNS.out.img
      go_wp2
      clear c0 c1 c2 HP
      go_loopw [75] (fun x75 wr => ∃ j : Nat, j ≤ k ∧ x75 = .int .i64 j ∧ Hid (NS w g k a cap m s wr (vq l k q))) (fun x75 _ => k - (intOf x75).toNat)
      case atStart => exact ⟨0, by omega, rfl, HNS⟩
      case round =>
        clear HNS
        skip
        obtain ⟨j, hj, rfl, HNS⟩ := hrel
        by_cases hjn : j < k
        · have hdl : (j : Int) < (k : Int) := by omega
          obtain ⟨x, hx⟩ : ∃ x, l[j]? = some x := ⟨_, List.getElem?_eq_getElem (by have := HN.out; omega)⟩
          obtain ⟨b, o, rfl, hbl, d0, d1, d2, d3, d4⟩ := (HS.out.below HNS.out.bel).at hx
          replace HNS := Lib.hid (HNS.out.below (below_new wr (.cells #[.int .u8 x.k, .int .i64 x.a, .int .i64 x.b, .int .i64 x.c, .int .i64 x.d] 39)))
          obtain ⟨c0, c1, c2⟩ := HNS.out.img
          have q0 : (wr.alloc (.cells #[.int .u8 x.k, .int .i64 x.a, .int .i64 x.b, .int .i64 x.c, .int .i64 x.d] 39)).cell? ⟨wr.heap.size, 0, none⟩ = some (.int .u8 x.k) := by go_simp
          have q1 : (wr.alloc (.cells #[.int .u8 x.k, .int .i64 x.a, .int .i64 x.b, .int .i64 x.c, .int .i64 x.d] 39)).cell? ⟨wr.heap.size, 1, none⟩ = some (.int .i64 x.a) := by go_simp
          have q2 : (wr.alloc (.cells #[.int .u8 x.k, .int .i64 x.a, .int .i64 x.b, .int .i64 x.c, .int .i64 x.d] 39)).cell? ⟨wr.heap.size, 2, none⟩ = some (.int .i64 x.b) := by go_simp
          have q3 : (wr.alloc (.cells #[.int .u8 x.k, .int .i64 x.a, .int .i64 x.b, .int .i64 x.c, .int .i64 x.d] 39)).cell? ⟨wr.heap.size, 3, none⟩ = some (.int .i64 x.c) := by go_simp
          have q4 : (wr.alloc (.cells #[.int .u8 x.k, .int .i64 x.a, .int .i64 x.b, .int .i64 x.c, .int .i64 x.d] 39)).cell? ⟨wr.heap.size, 4, none⟩ = some (.int .i64 x.d) := by go_simp
          rcases (by rcases rol_cases x.k with h | h | h | h | h <;> omega : rol x.k = 0 ∨ rol x.k = 1 ∨ rol x.k = 2 ∨ (rol x.k = 3 ∨ rol x.k = 4)) with hr | hr | hr | hr
          · obtain ⟨r1, r2, r3, r4⟩ := rolB0 hr
            have HP1 := Lib.hid (show part l (j : Int) = none by
              cases hp : part l (j : Int) with
              | none => rfl
              | some t => obtain ⟨q, _, hq⟩ := (part_iff l j t).1 hp; exact absurd hr (pr_role hq hx))
            clear hx hr
            go_upto_region 28 with ((go_at_call 17; refine (partner_any _ k cap l m s j _ (HS.out.below HNS.out.bel) HN.out hw (HL.out.below HNS.out.bel)).mono ?_; rintro e w1 ⟨rfl, hx⟩; rw [HP1.out]; replace HNS := Lib.hid (HNS.out.below hx); replace q0 := cell_on hx q0; replace q1 := cell_on hx q1; replace q2 := cell_on hx q2; replace q3 := cell_on hx q3; replace q4 := cell_on hx q4; clear hx))
            clear c0 c1 c2
            go_quiet ((first | (go_at_call 28; exact Calls.quiet_of_same (isJump_is _ _ r1 _)) | (go_at_call 29; exact Calls.quiet_of_same (isLanding_is _ _ r2 _))))
            go_wp2
            go_roundw
            case rel => exact ⟨j + 1, by omega, by go_num, Lib.hid (HNS.out.drewN _)⟩
            case measure => simp [intOf]; omega
          · obtain ⟨r1, r2, r3, r4, r5, r6⟩ := rolB1 hr
            obtain ⟨t, ht⟩ := HW.out.pair j x hx (by omega)
            have HP1 := Lib.hid ((part_iff l j (t : Int)).2 ⟨t, rfl, ht⟩)
            have htn : (t : Int) < (k : Int) := by have := ht.lt.2; have := HN.out; omega
            have hvv : (vq l k q t != vq l k q j) = false := by rw [vq_jump HW.out hx (by omega) ht]; simp
            clear hx hr ht
            go_upto_region 28 with ((go_at_call 17; refine (partner_any _ k cap l m s j _ (HS.out.below HNS.out.bel) HN.out hw (HL.out.below HNS.out.bel)).mono ?_; rintro e w1 ⟨rfl, hx⟩; rw [HP1.out]; replace HNS := Lib.hid (HNS.out.below hx); replace q0 := cell_on hx q0; replace q1 := cell_on hx q1; replace q2 := cell_on hx q2; replace q3 := cell_on hx q3; replace q4 := cell_on hx q4; clear hx))
            clear c0 c1 c2
            have y1 := HNS.out.row.cell (show j < k by omega)
            have y2 := HNS.out.row.cell (show t < k by omega)
            go_quiet ((first | (go_at_call 28; exact Calls.quiet_of_same (isJump_is _ _ r1 _)) | (go_at_call 29; exact Calls.quiet_of_same (isLanding_is _ _ r2 _))))
            go_wp2
            go_roundw
            case rel => exact ⟨j + 1, by omega, by go_num, Lib.hid (HNS.out.drewN _)⟩
            case measure => simp [intOf]; omega
          · obtain ⟨r1, r2, r3, r4, r5, r6⟩ := rolB2 hr
            obtain ⟨t, ht⟩ := HW.out.pair j x hx (by omega)
            have HP1 := Lib.hid ((part_iff l j (t : Int)).2 ⟨t, rfl, ht⟩)
            have htn : (t : Int) < (k : Int) := by have := ht.lt.2; have := HN.out; omega
            have hvv : (vq l k q t != vq l k q j) = false := by rw [vq_jump HW.out hx (by omega) ht]; simp
            clear hx hr ht
            go_upto_region 28 with ((go_at_call 17; refine (partner_any _ k cap l m s j _ (HS.out.below HNS.out.bel) HN.out hw (HL.out.below HNS.out.bel)).mono ?_; rintro e w1 ⟨rfl, hx⟩; rw [HP1.out]; replace HNS := Lib.hid (HNS.out.below hx); replace q0 := cell_on hx q0; replace q1 := cell_on hx q1; replace q2 := cell_on hx q2; replace q3 := cell_on hx q3; replace q4 := cell_on hx q4; clear hx))
            clear c0 c1 c2
            have y1 := HNS.out.row.cell (show j < k by omega)
            have y2 := HNS.out.row.cell (show t < k by omega)
            go_quiet ((first | (go_at_call 28; exact Calls.quiet_of_same (isJump_is _ _ r1 _)) | (go_at_call 29; exact Calls.quiet_of_same (isLanding_is _ _ r2 _))))
            go_wp2
            go_roundw
            case rel => exact ⟨j + 1, by omega, by go_num, Lib.hid (HNS.out.drewN _)⟩
            case measure => simp [intOf]; omega
          · obtain ⟨r1, r2⟩ : jmp x.k = false ∧ lnd x.k = false := by rcases hr with hr | hr; exact ⟨(rolB3 hr).1, (rolB3 hr).2.1⟩; exact ⟨(rolB4 hr).1, (rolB4 hr).2.1⟩
            obtain ⟨t, ht⟩ := HW.out.pair j x hx (by omega)
            have HP1 := Lib.hid ((part_iff l j (t : Int)).2 ⟨t, rfl, ht⟩)
            have htn : (t : Int) < (k : Int) := by have := ht.lt.2; have := HN.out; omega
            clear hx hr ht
            go_upto_region 28 with ((go_at_call 17; refine (partner_any _ k cap l m s j _ (HS.out.below HNS.out.bel) HN.out hw (HL.out.below HNS.out.bel)).mono ?_; rintro e w1 ⟨rfl, hx⟩; rw [HP1.out]; replace HNS := Lib.hid (HNS.out.below hx); replace q0 := cell_on hx q0; replace q1 := cell_on hx q1; replace q2 := cell_on hx q2; replace q3 := cell_on hx q3; replace q4 := cell_on hx q4; clear hx))
            clear c0 c1 c2
            go_quiet ((first | (go_at_call 28; exact Calls.quiet_of_same (isJump_is _ _ r1 _)) | (go_at_call 29; exact Calls.quiet_of_same (isLanding_is _ _ r2 _))))
            go_wp2
            go_roundw
            case rel => exact ⟨j + 1, by omega, by go_num, Lib.hid (HNS.out.drewN _)⟩
            case measure => simp [intOf]; omega
        · obtain rfl : j = k := by omega
          go_wp2
          go_ret
          exact ⟨rfl, HNS.out.bel⟩

set_option maxRecDepth 100000 in
theorem lifted (os : Os) (started : os.Started) (H : Type) (enc : TypeId × Value → H) :
    ReturnsInHanded {} Tryd.checked os 10 .any (fun w args => (Rows.imageNestedSpec.pre enc Tryd.prog Tryd.f10 [] false w args ∧ laidMetH Tryd.prog laidL w) ∧ sizedMet enc Tryd.prog Tryd.f10 (OpenSpec.ofChange Rows.imageNestedSpec) false w args)
      (Rows.imageNestedSpec.post enc Tryd.prog Tryd.f10 false true false false) := by
  refine returnsInHanded_of_change_and (C := Tryd.checked) (X := fun w _ => laidMetH Tryd.prog laidL w) (fun _ _ _ hh h => h.of_heap hh) own started (by kernel_rfl) Tryd.func10
    (ChangeSpec.witness_shaped (enc := enc) (C := Tryd.checked) (os := os) (X := fun w _ => laidMetH Tryd.prog laidL w) false (World.doorLaid Tryd.prog 400 os) #[.agg #[.slice none 0 0, .int .i64 0, .int .i64 0]] 8 rfl (World.shaped_of_RefB (by kernel_rfl) (by kernel_rfl)) (by kernel_rfl) (by kernel_rfl) (by kernel_rfl) (door_met os _)) ?_
  intro W base args ds gs before hval0 hW _ _ hLm _
  have hL := of_laid hLm
  have hval : ∀ (j : Nat) t v, Tryd.f10.params[j]? = some t → args[j]? = some v → Value.okWide Tryd.prog W .any base t v := hval0
  have hW' := hW
  obtain ⟨p, q, hA0, hV, rfl, hfz, hnd⟩ := hW
  have hA : DataW.TrodAll enc Tryd.prog W 0 (fun _ => true) true Tryd.f10.params.toList args.toList ds p := hA0
  rw [Tryd.params10] at hA hval
  obtain ⟨v0, vs0, d0, ds0, p0, q0, hargs, rfl, rfl, h0, r0⟩ := trodAll_cons hA
  obtain ⟨rfl, rfl, rfl⟩ := trodAll_nil r0
  obtain rfl : args = #[v0] := by cases args; simp_all
  obtain ⟨rfl, rfl⟩ := trodVars_none hV
  have k0 := h0
  have lt0 : ∀ x ∈ p0, x.block < W.heap.size := by obtain ⟨m, hm⟩ := k0; exact DataW.trod_lt m _ _ _ hm
  obtain ⟨a, n, cap, m, s, l, rfl, hn, hb, hS, hw⟩ := open_image (hval 0 24 v0 rfl rfl) h0
  clear hA0 hval0
  refine (walk a n cap m s l W hn hb hS hw hL).mono fun e W' ⟨he, bel⟩ => ?_
  subst he
  exact ⟨_, rfl, _, _, _, [], _, [], hW', trodAll_mk1 (shut_bool Tryd.underlying4 _), (trodAll_cons_mk (Below.trod laidOut (by kernel_rfl) (of_decide_eq_true (by kernel_rfl)) k0 bel lt0) trodAll_mk0), rfl, bel.frame _, fun h => by cases h⟩

theorem over : Rows.imageNestedRow.holds Tryd.pinned (OpenSpec.ofChange Rows.imageNestedSpec) :=
  OpenClaim.holds_of_wide 10 Tryd.f10 rfl rfl rfl rfl rfl rfl rfl ⟨rfl, rfl, rfl, rfl, rfl⟩ rfl rfl rfl rfl rfl (by kernel_rfl) Tryd.func10 (by kernel_rfl)
    (of_decide_eq_true (by kernel_rfl)) (by unfold Func.isWrapper; first | (rw [if_pos (by decide +kernel)]; kernel_rfl) | (rw [if_neg (by decide +kernel)]; exact ⟨rfl, rfl⟩))
    (fun os started H enc _ => lifted os started H enc)

theorem proved : Rows.ImageNestedCardSaid :=
  Claim7.holds_tied_plain_at .later [] [.data] true (true, "e81659936c82e3a671cfc7106131e0789ef7ada7cc59735c1fc83ffbcfb7ed7d") false
    over (fun _ h => by cases h) (by kernel_rfl) (fun _ h => by cases h) imageNested_row_tie rfl ⟨rfl, rfl⟩ (by kernel_rfl) rfl
    (fun f fn hf hfn => by
      obtain rfl : f = 10 := Option.some.inj ((show Tryd.prog.funcNamed "backstep/backsteplaw23.ImageNested" = some 10 by kernel_rfl).symm.trans hf) |>.symm
      obtain rfl : fn = Tryd.f10 := (Option.some.inj (Tryd.func10.symm.trans hfn)).symm
      exact ⟨by kernel_rfl, fun j t ht => by
        rw [Tryd.params10] at ht
        have hm : t ∈ [24] := by simpa using Array.mem_of_getElem? ht
        have hall : ([24].all fun u => !Tryd.prog.wantsStandIn u) = true := by kernel_rfl
        exact (show Tryd.prog.wantsStandIn t = false by simpa using List.all_eq_true.1 hall t hm)⟩)
    (by kernel_rfl)
#print axioms proved
end Go.Proofs.YtalkhkhnpplofaaDoor.imageNested
