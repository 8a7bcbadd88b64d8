/- Contracts: Invert of a valid image. -/
import Derived.Test.YtalkhkhnpplofaaDoorRows
import Derived.WalkKit
import Derived.ProofKit
import Derived.OpenShut
import Derived.Below
import Derived.Lib.Hide
import Derived.Outline
import Derived.WalkLawsBesides
import Derived.WalkSpells
import Derived.WalkSmall
import Derived.IntWalk
import Derived.Deep.QuietTactic
import Derived.BigQuiet
import Derived.Deep.RegionHeld3
import Derived.StillTailTactics
import Derived.Handy
import Derived.Deep.Cut
import Derived.Deep.OwnRows
import Derived.Deep.RegionWith
import Derived.Test.YtalkhkhnpplofaaDoorInv0
namespace Go.Proofs.YtalkhkhnpplofaaDoor
open Go.ChangeShapes Go.WideShapes Go.ChangeAt Go.RowKit
set_option linter.unusedSimpArgs false
set_option linter.unusedVariables false

set_option maxRecDepth 100000 in
set_option maxHeartbeats 2000000 in
theorem invert_ok (a : Option Addr) (n cap : Nat) (m s : Int) (l : List Ins) (w : World) (h : SliceC w a l) (hn : l.length = n) (hw : WF l) (hL : Laid w) (hn2 : n ≤ 300) (he : ckE l m s = 0) :
    Calls Tryd.prog 21 #[.agg #[.slice a n cap, .int .i64 m, .int .i64 s]] w fun e w' => ∃ g, e = .returned (.tuple #[.agg #[.slice (some ⟨g, 0, none⟩) n n, .int .i64 m, .int .i64 s], .int .i64 0]) ∧ SliceC w' (some ⟨g, 0, none⟩) (invL l) ∧ Below w.heap.size w w' := by
  have HA : Hid (Below w.heap.size w ((w.alloc (.cells #[.slice a n cap, .int .i64 m, .int .i64 s] 24)).alloc (.cells #[.slice none 0 0, .int .i64 0, .int .i64 0] 24))) := Lib.hid (((Below.refl _ _).alloc (Nat.le_refl _) _).alloc (by simp) _)
  have HS := Lib.hid h
  have HL := Lib.hid hL
  have HE := Lib.hid he
  have HN := Lib.hid hn
  have HV := Lib.hid (ckE_ok he).2
  have i0 : ((w.alloc (.cells #[.slice a n cap, .int .i64 m, .int .i64 s] 24)).alloc (.cells #[.slice none 0 0, .int .i64 0, .int .i64 0] 24)).cell? ⟨w.heap.size, 0, none⟩ = some (.slice a n cap) := by go_simp
  have i1 : ((w.alloc (.cells #[.slice a n cap, .int .i64 m, .int .i64 s] 24)).alloc (.cells #[.slice none 0 0, .int .i64 0, .int .i64 0] 24)).cell? ⟨w.heap.size, 1, none⟩ = some (.int .i64 m) := by go_simp
  have i2 : ((w.alloc (.cells #[.slice a n cap, .int .i64 m, .int .i64 s] 24)).alloc (.cells #[.slice none 0 0, .int .i64 0, .int .i64 0] 24)).cell? ⟨w.heap.size, 2, none⟩ = some (.int .i64 s) := by go_simp
  have r0 : ((w.alloc (.cells #[.slice a n cap, .int .i64 m, .int .i64 s] 24)).alloc (.cells #[.slice none 0 0, .int .i64 0, .int .i64 0] 24)).cell? ⟨w.heap.size + 1, 0, none⟩ = some (.slice none 0 0) := by go_simp
  have r1 : ((w.alloc (.cells #[.slice a n cap, .int .i64 m, .int .i64 s] 24)).alloc (.cells #[.slice none 0 0, .int .i64 0, .int .i64 0] 24)).cell? ⟨w.heap.size + 1, 1, none⟩ = some (.int .i64 0) := by go_simp
  have r2 : ((w.alloc (.cells #[.slice a n cap, .int .i64 m, .int .i64 s] 24)).alloc (.cells #[.slice none 0 0, .int .i64 0, .int .i64 0] 24)).cell? ⟨w.heap.size + 1, 2, none⟩ = some (.int .i64 0) := by go_simp
  have f0 : ((w.alloc (.cells #[.slice a n cap, .int .i64 m, .int .i64 s] 24)).alloc (.cells #[.slice none 0 0, .int .i64 0, .int .i64 0] 24)).frozen? ⟨w.heap.size + 1, 0, none⟩ = false := by go_simp
  have f1 : ((w.alloc (.cells #[.slice a n cap, .int .i64 m, .int .i64 s] 24)).alloc (.cells #[.slice none 0 0, .int .i64 0, .int .i64 0] 24)).frozen? ⟨w.heap.size + 1, 1, none⟩ = false := by go_simp
  have f2 : ((w.alloc (.cells #[.slice a n cap, .int .i64 m, .int .i64 s] 24)).alloc (.cells #[.slice none 0 0, .int .i64 0, .int .i64 0] 24)).frozen? ⟨w.heap.size + 1, 2, none⟩ = false := by go_simp
  have hmake := fun w => run_makeN (P := Tryd.prog) 22 39 (.agg #[.int .u8 0, .int .i64 0, .int .i64 0, .int .i64 0, .int .i64 0]) 5 40 Tryd.underlying22 Tryd.info39 n (by omega) (by omega) w
  clear h hL he hn
  go_enter Tryd.func21, Tryd.ntmps21
  go_wp2_with (go_at_call 14; refine (check_any a n cap m s l _ (HS.out.below HA.out) HN.out hw (HL.out.below HA.out) hn2).mono ?_; rintro e w2 ⟨rfl, hb⟩; rw [HE.out]; have HB := Lib.hid (below_on HA.out hb); replace f0 := frozen_on hb r0 f0; replace f1 := frozen_on hb r1 f1; replace f2 := frozen_on hb r2 f2; replace r0 := cell_on hb r0; replace r1 := cell_on hb r1; replace r2 := cell_on hb r2; replace i0 := cell_on hb i0; replace i1 := cell_on hb i1; replace i2 := cell_on hb i2; clear hb)
  clear hmake
  have hz1 := World.block_lt_of_cell? _ _ r0
  simp only at hz1
  have HX : Hid (IS w w.heap.size (w.heap.size + 1) w2.heap.size n a cap m s (w2.alloc (.cells (madeCells #[.int .u8 0, .int .i64 0, .int .i64 0, .int .i64 0, .int .i64 0] (n * 5)) 39)) (insF (invL l) n 0)) := by
    have hb : Below w2.heap.size w2 (w2.alloc (.cells (madeCells #[.int .u8 0, .int .i64 0, .int .i64 0, .int .i64 0, .int .i64 0] (n * 5)) 39)) := (Below.refl _ _).alloc (Nat.le_refl _) _
    refine Lib.hid ⟨⟨cell_on hb i0, cell_on hb i1, cell_on hb i2⟩, ⟨cell_on hb r0, cell_on hb r1, cell_on hb r2⟩, ⟨frozen_on hb r0 f0, frozen_on hb r1 f1, frozen_on hb r2 f2⟩, ?_, below_on HB.out hb, Nat.le_refl _, by omega, by omega, by simp⟩
    refine ⟨_, heap_alloc_new w2 (.cells (madeCells #[.int .u8 0, .int .i64 0, .int .i64 0, .int .i64 0, .int .i64 0] (n * 5)) 39), size_madeCells _ _, fun p hp => ?_⟩
    unfold insF
    rw [if_neg (by omega)]
    have h4 : p % 5 = 0 ∨ p % 5 = 1 ∨ p % 5 = 2 ∨ p % 5 = 3 ∨ p % 5 = 4 := by omega
    rcases h4 with h4 | h4 | h4 | h4 | h4 <;> simp [madeCells, hp, h4, zins, Ins.cell]
  clear i0 i1 i2 r0 r1 r2 f0 f1 f2 hz1 HA
  generalize w2.alloc (.cells (madeCells #[.int .u8 0, .int .i64 0, .int .i64 0, .int .i64 0, .int .i64 0] (n * 5)) 39) = W at *
  obtain ⟨ib, hib⟩ : ∃ x, x = w.heap.size := ⟨_, rfl⟩
  obtain ⟨rb, hrb⟩ : ∃ x, x = w.heap.size + 1 := ⟨_, rfl⟩
  obtain ⟨g, hg⟩ : ∃ x, x = w2.heap.size := ⟨_, rfl⟩
  rw [← hrb, ← hib, ← hg] at HX
  rw [← hrb, ← hib, ← hg]
  replace hib := hib.symm
  clear hg HB
  have HIB := Lib.hid hib
  clear hib hrb
  go_loopw [8, 9] (fun x8 x9 wr => ∃ (k : Nat) (z : Int), k ≤ n ∧ x8 = .int .i64 k ∧ x9 = .int .i64 z ∧ Hid (z = (n : Int) - 1 - k) ∧ -1 ≤ z ∧ z ≤ n ∧ Hid (IS w ib rb g n a cap m s wr (insF (invL l) n k))) (fun x8 _ _ => n - (intOf x8).toNat)
  case atStart => exact ⟨0, (n : Int) - 1, by omega, rfl, by go_num, Lib.hid (by omega), by omega, by omega, HX⟩
  case round =>
    clear HX
    rename_i x8 x9 wr
    obtain ⟨k, z, hk, rfl, rfl, HZ, hz1, hz2, HR⟩ := hrel
    by_cases hkn : k < n
    · have hdl : (k : Int) < (n : Int) := by omega
      obtain ⟨r, rfl⟩ : ∃ r : Nat, z = r := ⟨z.toNat, by have := HZ.out; omega⟩
      have HRK := Lib.hid (show n = r + k + 1 by have := HZ.out; omega)
      have hrn : (r : Int) < (n : Int) := by have := HRK.out; omega
      have hrn' : r < n := by have := HRK.out; omega
      obtain ⟨x, hx⟩ : ∃ x, l[k]? = some x := ⟨_, List.getElem?_eq_getElem (by have := HN.out; omega)⟩
      obtain ⟨b, o, rfl, hbl, c0, c1, c2, c3, c4⟩ := (HS.out.below HR.out.bel).at hx
      have hkk := hw.at hx
      have hvx := flt_vld hx (HV.out k (by have := HN.out; omega))
      have hia := invL_at hx
      rw [HN.out, show n - 1 - k = r by have := HRK.out; omega] at hia
      have HBr : Hid (Below wr.heap.size wr (wr.alloc (.cells #[.int .u8 x.k, .int .i64 x.a, .int .i64 x.b, .int .i64 x.c, .int .i64 x.d] 39))) := Lib.hid ((Below.refl _ _).alloc (Nat.le_refl _) _)
      have j0 := HR.out.img.1
      have i0 := cell_on HBr.out HR.out.img.1
      have i1 := cell_on HBr.out HR.out.img.2.1
      have i2 := cell_on HBr.out HR.out.img.2.2
      have q0 : (wr.alloc (.cells #[.int .u8 x.k, .int .i64 x.a, .int .i64 x.b, .int .i64 x.c, .int .i64 x.d] 39)).cell? ⟨wr.heap.size, 0, none⟩ = some (.int .u8 x.k) := by go_simp
      have f0 : (wr.alloc (.cells #[.int .u8 x.k, .int .i64 x.a, .int .i64 x.b, .int .i64 x.c, .int .i64 x.d] 39)).frozen? ⟨wr.heap.size, 0, none⟩ = false := by go_simp
      have q1 : (wr.alloc (.cells #[.int .u8 x.k, .int .i64 x.a, .int .i64 x.b, .int .i64 x.c, .int .i64 x.d] 39)).cell? ⟨wr.heap.size, 1, none⟩ = some (.int .i64 x.a) := by go_simp
      have f1 : (wr.alloc (.cells #[.int .u8 x.k, .int .i64 x.a, .int .i64 x.b, .int .i64 x.c, .int .i64 x.d] 39)).frozen? ⟨wr.heap.size, 1, none⟩ = false := by go_simp
      have q2 : (wr.alloc (.cells #[.int .u8 x.k, .int .i64 x.a, .int .i64 x.b, .int .i64 x.c, .int .i64 x.d] 39)).cell? ⟨wr.heap.size, 2, none⟩ = some (.int .i64 x.b) := by go_simp
      have f2 : (wr.alloc (.cells #[.int .u8 x.k, .int .i64 x.a, .int .i64 x.b, .int .i64 x.c, .int .i64 x.d] 39)).frozen? ⟨wr.heap.size, 2, none⟩ = false := by go_simp
      have q3 : (wr.alloc (.cells #[.int .u8 x.k, .int .i64 x.a, .int .i64 x.b, .int .i64 x.c, .int .i64 x.d] 39)).cell? ⟨wr.heap.size, 3, none⟩ = some (.int .i64 x.c) := by go_simp
      have f3 : (wr.alloc (.cells #[.int .u8 x.k, .int .i64 x.a, .int .i64 x.b, .int .i64 x.c, .int .i64 x.d] 39)).frozen? ⟨wr.heap.size, 3, none⟩ = false := by go_simp
      have q4 : (wr.alloc (.cells #[.int .u8 x.k, .int .i64 x.a, .int .i64 x.b, .int .i64 x.c, .int .i64 x.d] 39)).cell? ⟨wr.heap.size, 4, none⟩ = some (.int .i64 x.d) := by go_simp
      have f4 : (wr.alloc (.cells #[.int .u8 x.k, .int .i64 x.a, .int .i64 x.b, .int .i64 x.c, .int .i64 x.d] 39)).frozen? ⟨wr.heap.size, 4, none⟩ = false := by go_simp
      have hbs := HR.out.lt.2.2.2
      clear hx HZ
      cases hT : tb x.k
      · have HT := Lib.hid hT
        unfold invI at hia
        rw [rta_no hT, rtb_no hT] at hia
        have HY := Lib.hid hia
        clear hia hT hvx
        go_wp2_with (first | (go_at_call 25; refine (target_any x.k x.a x.b x.c x.d _ hkk (HL.out.below (below_on HR.out.bel HBr.out))).mono ?_; rintro e w2 ⟨rfl, hb⟩; rw [HT.out]; replace HBr := Lib.hid (below_on HBr.out hb); replace i0 := cell_on hb i0; replace i1 := cell_on hb i1; replace i2 := cell_on hb i2; replace f0 := frozen_on hb q0 f0; replace q0 := cell_on hb q0; replace f1 := frozen_on hb q1 f1; replace q1 := cell_on hb q1; replace f2 := frozen_on hb q2 f2; replace q2 := cell_on hb q2; replace f3 := frozen_on hb q3 f3; replace q3 := cell_on hb q3; replace f4 := frozen_on hb q4 f4; replace q4 := cell_on hb q4; clear hb) | (go_at_call 24; refine (inverse_any _ _ _ _ _ _).mono ?_; rintro e w5 ⟨rfl, hb⟩; have HB5 := Lib.hid (below_on HBr.out hb); obtain ⟨⟨u0, u1, u2, u3, u4, z0, z1, z2, z3, z4⟩, zf, hlay⟩ := (HR.out.below HB5.out).lay HRK.out HY.out; have zf0 := zf (r * 5); have zf1 := zf (r * 5 + 1); have zf2 := zf (r * 5 + 2); have zf3 := zf (r * 5 + 3); have zf4 := zf (r * 5 + 4); have HLY := Lib.hid hlay; clear hb zf hlay))
        go_roundw
        case rel => exact ⟨k + 1, (r : Int) - 1, by omega, by go_num, rfl, Lib.hid (by have := HRK.out; omega), by omega, by omega, HLY⟩
        case measure => simp [intOf]; omega
      · have HT := Lib.hid hT
        have ht := vld_tv hvx hT
        obtain ⟨t0, ht0⟩ : ∃ t0, tv x.k x.a x.b = t0 := ⟨_, rfl⟩
        rw [ht0] at ht
        have HT0 := Lib.hid ht0
        by_cases hc : x.k = 30 ∨ x.k = 31
        · obtain ⟨t, hpt⟩ : ∃ t, (part l t0).getD 0 = t := ⟨_, rfl⟩
          have ht2 : 0 ≤ t ∧ t ≤ 65535 := by
            rw [← hpt]
            cases hp : part l t0 with
            | none => exact ⟨by simp, by simp⟩
            | some u =>
              have h5 := part_in (l := l) (t := t0) (by rw [hp]; rfl)
              obtain ⟨j, rfl⟩ : ∃ j : Nat, t0 = j := ⟨t0.toNat, by omega⟩
              obtain ⟨q, rfl, hq⟩ := (part_iff l j u).1 hp
              have := hq.lt.2
              have := HN.out
              simp only [Option.getD_some]
              omega
          have hit : invT l x = t := by unfold invT; rw [if_pos hc, ht0, hpt]
          unfold invI at hia
          rw [hit, HN.out] at hia
          have HPT := Lib.hid hpt
          have HY := Lib.hid hia
          obtain ⟨t1, t2⟩ := ht
          obtain ⟨t3, t4⟩ := ht2
          clear hia hT hvx ht0 hpt hit
          by_cases h30 : x.k = 30
          · have b30 : (x.k == 30) = true := by rw [beq_iff_eq]; exact h30
            clear hc h30
            go_wp2_with (first | (go_at_call 25; refine (target_any x.k x.a x.b x.c x.d _ hkk (HL.out.below (below_on HR.out.bel HBr.out))).mono ?_; rintro e w2 ⟨rfl, hb⟩; rw [HT.out, HT0.out]; replace HBr := Lib.hid (below_on HBr.out hb); replace i0 := cell_on hb i0; replace i1 := cell_on hb i1; replace i2 := cell_on hb i2; replace f0 := frozen_on hb q0 f0; replace q0 := cell_on hb q0; replace f1 := frozen_on hb q1 f1; replace q1 := cell_on hb q1; replace f2 := frozen_on hb q2 f2; replace q2 := cell_on hb q2; replace f3 := frozen_on hb q3 f3; replace q3 := cell_on hb q3; replace f4 := frozen_on hb q4 f4; replace q4 := cell_on hb q4; clear hb) | (go_at_call 17; go_loud (refine (partner_any _ n cap l m s t0 _ (HS.out.below (below_on HR.out.bel HBr.out)) HN.out hw (HL.out.below (below_on HR.out.bel HBr.out))).mono ?_; rintro e w2 ⟨rfl, hb⟩; rw [HPT.out]; replace HBr := Lib.hid (below_on HBr.out hb); replace i0 := cell_on hb i0; replace i1 := cell_on hb i1; replace i2 := cell_on hb i2; replace f0 := frozen_on hb q0 f0; replace q0 := cell_on hb q0; replace f1 := frozen_on hb q1 f1; replace q1 := cell_on hb q1; replace f2 := frozen_on hb q2 f2; replace q2 := cell_on hb q2; replace f3 := frozen_on hb q3 f3; replace q3 := cell_on hb q3; replace f4 := frozen_on hb q4 f4; replace q4 := cell_on hb q4; clear hb)) | (go_at_call 26; refine (retarget_any x.k x.a x.b x.c x.d _ _ hkk (HL.out.below (below_on HR.out.bel HBr.out))).mono ?_; rintro e w2 ⟨rfl, hb⟩; replace HBr := Lib.hid (below_on HBr.out hb); replace i0 := cell_on hb i0; replace i1 := cell_on hb i1; replace i2 := cell_on hb i2; replace f0 := frozen_on hb q0 f0; replace q0 := cell_on hb q0; replace f1 := frozen_on hb q1 f1; replace q1 := cell_on hb q1; replace f2 := frozen_on hb q2 f2; replace q2 := cell_on hb q2; replace f3 := frozen_on hb q3 f3; replace q3 := cell_on hb q3; replace f4 := frozen_on hb q4 f4; replace q4 := cell_on hb q4; clear hb) | (go_at_call 24; refine (inverse_any _ _ _ _ _ _).mono ?_; rintro e w5 ⟨rfl, hb⟩; have HB5 := Lib.hid (below_on (set5b _ _ _ HBr.out (Nat.le_refl _) _ _ _ _ _) hb); obtain ⟨⟨u0, u1, u2, u3, u4, z0, z1, z2, z3, z4⟩, zf, hlay⟩ := (HR.out.below HB5.out).lay HRK.out HY.out; have zf0 := zf (r * 5); have zf1 := zf (r * 5 + 1); have zf2 := zf (r * 5 + 2); have zf3 := zf (r * 5 + 3); have zf4 := zf (r * 5 + 4); have HLY := Lib.hid hlay; clear hb zf hlay))
            go_roundw
            case rel => exact ⟨k + 1, (r : Int) - 1, by omega, by go_num, rfl, Lib.hid (by have := HRK.out; omega), by omega, by omega, HLY⟩
            case measure => simp [intOf]; omega
          · have b30 : (x.k == 30) = false := by rw [beq_eq_false_iff_ne]; exact h30
            have b31 : (x.k == 31) = true := by rw [beq_iff_eq]; omega
            clear hc h30
            go_wp2_with (first | (go_at_call 25; refine (target_any x.k x.a x.b x.c x.d _ hkk (HL.out.below (below_on HR.out.bel HBr.out))).mono ?_; rintro e w2 ⟨rfl, hb⟩; rw [HT.out, HT0.out]; replace HBr := Lib.hid (below_on HBr.out hb); replace i0 := cell_on hb i0; replace i1 := cell_on hb i1; replace i2 := cell_on hb i2; replace f0 := frozen_on hb q0 f0; replace q0 := cell_on hb q0; replace f1 := frozen_on hb q1 f1; replace q1 := cell_on hb q1; replace f2 := frozen_on hb q2 f2; replace q2 := cell_on hb q2; replace f3 := frozen_on hb q3 f3; replace q3 := cell_on hb q3; replace f4 := frozen_on hb q4 f4; replace q4 := cell_on hb q4; clear hb) | (go_at_call 17; go_loud (refine (partner_any _ n cap l m s t0 _ (HS.out.below (below_on HR.out.bel HBr.out)) HN.out hw (HL.out.below (below_on HR.out.bel HBr.out))).mono ?_; rintro e w2 ⟨rfl, hb⟩; rw [HPT.out]; replace HBr := Lib.hid (below_on HBr.out hb); replace i0 := cell_on hb i0; replace i1 := cell_on hb i1; replace i2 := cell_on hb i2; replace f0 := frozen_on hb q0 f0; replace q0 := cell_on hb q0; replace f1 := frozen_on hb q1 f1; replace q1 := cell_on hb q1; replace f2 := frozen_on hb q2 f2; replace q2 := cell_on hb q2; replace f3 := frozen_on hb q3 f3; replace q3 := cell_on hb q3; replace f4 := frozen_on hb q4 f4; replace q4 := cell_on hb q4; clear hb)) | (go_at_call 26; refine (retarget_any x.k x.a x.b x.c x.d _ _ hkk (HL.out.below (below_on HR.out.bel HBr.out))).mono ?_; rintro e w2 ⟨rfl, hb⟩; replace HBr := Lib.hid (below_on HBr.out hb); replace i0 := cell_on hb i0; replace i1 := cell_on hb i1; replace i2 := cell_on hb i2; replace f0 := frozen_on hb q0 f0; replace q0 := cell_on hb q0; replace f1 := frozen_on hb q1 f1; replace q1 := cell_on hb q1; replace f2 := frozen_on hb q2 f2; replace q2 := cell_on hb q2; replace f3 := frozen_on hb q3 f3; replace q3 := cell_on hb q3; replace f4 := frozen_on hb q4 f4; replace q4 := cell_on hb q4; clear hb) | (go_at_call 24; refine (inverse_any _ _ _ _ _ _).mono ?_; rintro e w5 ⟨rfl, hb⟩; have HB5 := Lib.hid (below_on (set5b _ _ _ HBr.out (Nat.le_refl _) _ _ _ _ _) hb); obtain ⟨⟨u0, u1, u2, u3, u4, z0, z1, z2, z3, z4⟩, zf, hlay⟩ := (HR.out.below HB5.out).lay HRK.out HY.out; have zf0 := zf (r * 5); have zf1 := zf (r * 5 + 1); have zf2 := zf (r * 5 + 2); have zf3 := zf (r * 5 + 3); have zf4 := zf (r * 5 + 4); have HLY := Lib.hid hlay; clear hb zf hlay))
            go_roundw
            case rel => exact ⟨k + 1, (r : Int) - 1, by omega, by go_num, rfl, Lib.hid (by have := HRK.out; omega), by omega, by omega, HLY⟩
            case measure => simp [intOf]; omega
        · have hit : invT l x = t0 := by unfold invT; rw [if_neg hc, ht0]
          unfold invI at hia
          rw [hit, HN.out] at hia
          have HY := Lib.hid hia
          obtain ⟨t1, t2⟩ := ht
          have b30 : (x.k == 30) = false := by rw [beq_eq_false_iff_ne]; omega
          have b31 : (x.k == 31) = false := by rw [beq_eq_false_iff_ne]; omega
          clear hia hT hvx ht0 hit hc
          go_wp2_with (first | (go_at_call 25; refine (target_any x.k x.a x.b x.c x.d _ hkk (HL.out.below (below_on HR.out.bel HBr.out))).mono ?_; rintro e w2 ⟨rfl, hb⟩; rw [HT.out, HT0.out]; replace HBr := Lib.hid (below_on HBr.out hb); replace i0 := cell_on hb i0; replace i1 := cell_on hb i1; replace i2 := cell_on hb i2; replace f0 := frozen_on hb q0 f0; replace q0 := cell_on hb q0; replace f1 := frozen_on hb q1 f1; replace q1 := cell_on hb q1; replace f2 := frozen_on hb q2 f2; replace q2 := cell_on hb q2; replace f3 := frozen_on hb q3 f3; replace q3 := cell_on hb q3; replace f4 := frozen_on hb q4 f4; replace q4 := cell_on hb q4; clear hb) | (go_at_call 26; refine (retarget_any x.k x.a x.b x.c x.d _ _ hkk (HL.out.below (below_on HR.out.bel HBr.out))).mono ?_; rintro e w2 ⟨rfl, hb⟩; replace HBr := Lib.hid (below_on HBr.out hb); replace i0 := cell_on hb i0; replace i1 := cell_on hb i1; replace i2 := cell_on hb i2; replace f0 := frozen_on hb q0 f0; replace q0 := cell_on hb q0; replace f1 := frozen_on hb q1 f1; replace q1 := cell_on hb q1; replace f2 := frozen_on hb q2 f2; replace q2 := cell_on hb q2; replace f3 := frozen_on hb q3 f3; replace q3 := cell_on hb q3; replace f4 := frozen_on hb q4 f4; replace q4 := cell_on hb q4; clear hb) | (go_at_call 24; refine (inverse_any _ _ _ _ _ _).mono ?_; rintro e w5 ⟨rfl, hb⟩; have HB5 := Lib.hid (below_on (set5b _ _ _ HBr.out (Nat.le_refl _) _ _ _ _ _) hb); obtain ⟨⟨u0, u1, u2, u3, u4, z0, z1, z2, z3, z4⟩, zf, hlay⟩ := (HR.out.below HB5.out).lay HRK.out HY.out; have zf0 := zf (r * 5); have zf1 := zf (r * 5 + 1); have zf2 := zf (r * 5 + 2); have zf3 := zf (r * 5 + 3); have zf4 := zf (r * 5 + 4); have HLY := Lib.hid hlay; clear hb zf hlay))
          go_roundw
          case rel => exact ⟨k + 1, (r : Int) - 1, by omega, by go_num, rfl, Lib.hid (by have := HRK.out; omega), by omega, by omega, HLY⟩
          case measure => simp [intOf]; omega
    · obtain rfl : k = n := by omega
      obtain ⟨j0, j1, j2⟩ := HR.out.img
      obtain ⟨s0, s1, s2⟩ := HR.out.res
      obtain ⟨g0, g1, g2⟩ := HR.out.resf
      go_wp2
      have R := set3 wr rb (.slice (some ⟨g, 0, none⟩) k k) (.int .i64 m) (.int .i64 s) _ _ _ s0 s1 s2
      obtain ⟨y0, y1, y2⟩ := R
      have hlt := HR.out.lt
      refine bodyPost_ret (v := .tuple #[.agg #[.slice (some ⟨g, 0, none⟩) k k, .int .i64 m, .int .i64 s], .int .i64 0]) (by simp [results, Tryd.results21, go_sem, y0, y1, y2]) rfl ⟨g, rfl, ?_, ?_⟩
      · have hs := SliceC_row HR.out.row (by rw [invL_len, HN.out]) hlt.2.2.2
        have hsz : rb ≠ g := by omega
        intro hne
        obtain ⟨b, o, e, h1, h2⟩ := hs hne
        cases e
        refine ⟨g, 0, rfl, by simpa using h1, fun i y hi => ?_⟩
        obtain ⟨c0, c1, c2, c3, c4⟩ := h2 i y hi
        exact ⟨set_past hsz.symm (set_past hsz.symm (set_past hsz.symm c0)), set_past hsz.symm (set_past hsz.symm (set_past hsz.symm c1)), set_past hsz.symm (set_past hsz.symm (set_past hsz.symm c2)), set_past hsz.symm (set_past hsz.symm (set_past hsz.symm c3)), set_past hsz.symm (set_past hsz.symm (set_past hsz.symm c4))⟩
      · have hq : w.heap.size ≤ rb := by have := HIB.out; omega
        have hb := HR.out.bel
        exact ((hb.setCell (p := ⟨rb, 0, none⟩) hq _).setCell (p := ⟨rb, 1, none⟩) hq _).setCell (p := ⟨rb, 2, none⟩) hq _
end Go.Proofs.YtalkhkhnpplofaaDoor
