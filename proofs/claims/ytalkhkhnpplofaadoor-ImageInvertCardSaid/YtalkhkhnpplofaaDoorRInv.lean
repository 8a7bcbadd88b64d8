/- Contracts: the reference's Invert. -/
import Derived.Test.YtalkhkhnpplofaaDoorRows
import Derived.WalkKit
import Derived.ProofKit
import Derived.OpenShut
import Derived.Below
import Derived.Lib.Hide
import Derived.Outline
import Derived.WalkLawsBesides
import Derived.WalkSpells
import Derived.WalkSmall
import Derived.IntWalk
import Derived.Deep.QuietTactic
import Derived.BigQuiet
import Derived.Deep.RegionHeld3
import Derived.StillTailTactics
import Derived.Handy
import Derived.Deep.Cut
import Derived.Deep.OwnRows
import Derived.Deep.RegionWith
import Derived.Test.YtalkhkhnpplofaaDoorRInv0
import Derived.Test.YtalkhkhnpplofaaDoorRefI
namespace Go.Proofs.YtalkhkhnpplofaaDoor
open Go.ChangeShapes Go.WideShapes Go.ChangeAt Go.RowKit
set_option linter.unusedSimpArgs false
set_option linter.unusedVariables false

/-- an image is returned -/
def RetImg (w : World) (n : Nat) (m s : Int) (L : List Ins) (e : Ending) (w' : World) : Prop := ∃ aa cc, e = .returned (.agg #[.slice aa n cc, .int .i64 m, .int .i64 s]) ∧ SliceC w' aa L ∧ Below w.heap.size w w'

set_option maxRecDepth 100000 in
set_option maxHeartbeats 8000000 in
theorem rinvert_any (a : Option Addr) (n cap : Nat) (m s : Int) (l : List Ins) (w : World) (h : SliceC w a l) (hn : l.length = n) (hw : WF l) (hn2 : n ≤ 300) (hd : Wd l) :
    Calls Tryd.prog 23 #[.agg #[.slice a n cap, .int .i64 m, .int .i64 s]] w (RetImg w n m s (invL l)) := by
  have HS := Lib.hid h
  have HN := Lib.hid hn
  have HD := Lib.hid hd
  have HRI : Hid (RI w n a cap m s (((w.alloc (.cells #[.slice a n cap, .int .i64 m, .int .i64 s] 24)).alloc (.cells #[.slice none 0 0, .int .i64 0, .int .i64 0] 24)).alloc (.cells #[.slice none 0 0, .int .i64 m, .int .i64 s] 24)) (.slice none 0 0) ((invL l).take 0)) := Lib.hid ⟨by go_simp, ⟨by go_simp, by go_simp, by go_simp⟩, ⟨by go_simp, by go_simp, by go_simp⟩, ⟨by go_simp, by go_simp, by go_simp⟩, by go_simp, World.ownsRow_nil _ _ _ _, ((((Below.refl _ _).alloc (Nat.le_refl _) _).alloc (by simp) _).alloc (by simp; omega) _)⟩
  clear h hn hd
  go_enter Tryd.func23, Tryd.ntmps23
  go_wp2
  generalize (((w.alloc (.cells #[.slice a n cap, .int .i64 m, .int .i64 s] 24)).alloc (.cells #[.slice none 0 0, .int .i64 0, .int .i64 0] 24)).alloc (.cells #[.slice none 0 0, .int .i64 m, .int .i64 s] 24)) = W at *
  go_loopw [5] (fun x5 wr => ∃ (k : Nat) (z : Int) (v : Value), k ≤ n ∧ x5 = .int .i64 z ∧ Hid (z = (n : Int) - 1 - k) ∧ -1 ≤ z ∧ z ≤ n ∧ Hid (RI w n a cap m s wr v ((invL l).take k))) (fun x5 _ => (intOf x5 + 1).toNat)
  case atStart => exact ⟨0, (n : Int) - 1, _, by omega, rfl, Lib.hid (by omega), by omega, by omega, HRI⟩
  case round =>
    clear HRI
    obtain ⟨k, z, v, hk, rfl, HZ, hz1, hz2, HR⟩ := hrel
    by_cases hz : 0 ≤ z
    · obtain ⟨r, rfl⟩ : ∃ r : Nat, z = r := ⟨z.toNat, by omega⟩
      have hdg : decide (0 ≤ (r : Int)) = true := by simp
      have HRK := Lib.hid (show n = r + k + 1 by have := HZ.out; omega)
      have hrn : (r : Int) < (n : Int) := by have := HRK.out; omega
      obtain ⟨x, hx⟩ : ∃ x, l[r]? = some x := ⟨_, List.getElem?_eq_getElem (by have := HRK.out; have := HN.out; omega)⟩
      have HTK := Lib.hid (take_inv (k := k) hx (by have := HRK.out; have := HN.out; omega))
      have hkk := hw.at hx
      have hvx := HD.out.vl r x hx
      obtain ⟨b, o, rfl, hbl, d0, d1, d2, d3, d4⟩ := (HS.out.below HR.out.bel).at hx
      have j5 := HR.out.img
      have HQ := Lib.hid (B5.new wr x)
      have HBr := Lib.hid (below_new wr (.cells #[.int .u8 x.k, .int .i64 x.a, .int .i64 x.b, .int .i64 x.c, .int .i64 x.d] 39))
      have hbs := HR.out.bel.size
      clear HZ
      rcases inv_class x.k with ⟨hk, hi⟩ | ⟨hk, hi⟩ | ⟨ht, n30, n31, hk⟩ | ⟨ht, hk⟩ | ⟨ht, n30, n31, m30, m31, htg⟩
      · have HK := Lib.hid hi
        obtain ⟨p, e, hp, hst⟩ := HD.out.call r x hx (by omega)
        have hel : (e : Int) < (n : Int) := by have := hst.lt; have := HN.out; omega
        have HRP := Lib.hid (show rp l x.a = (e : Int) by rw [hp]; exact rp_some hst.1)
        have HY := Lib.hid (show invI l x = ⟨30, (n : Int) - 1 - e, x.b, x.c, x.d⟩ by
          have ht : tv x.k x.a x.b = x.a := by rw [hk]; rfl
          have hT : invT l x = e := by unfold invT; rw [if_pos (by omega), ht]; have := HRP.out; unfold rp at this; rw [hp, (part_iff l p (e : Int)).2 ⟨e, rfl, hst.1⟩]; rfl
          unfold invI
          rw [hT, HN.out, hk]; rfl)
        clear hx hp hst hk hi
        go_upto_region 8 with ((go_at_call 40; go_loud (refine (refInverse_any x.k _).mono ?_; rintro e w1 ⟨rfl, hb⟩; rw [HK.out]; replace HQ := Lib.hid (HQ.out.on hb); replace HBr := Lib.hid (below_on HBr.out hb); have q0 := HQ.out.1.1; have qf0 := HQ.out.2 0 (by omega); clear hb)))
        generalize hw2 : World.setCell _ ⟨wr.heap.size, 0, none⟩ (.int .u8 30) = w2
        have HQ2 := Lib.hid (HQ.out.set0 30)
        have HB2 := Lib.hid (HBr.out.setCell (p := ⟨wr.heap.size, 0, none⟩) (Nat.le_refl _) (.int .u8 30))
        rw [hw2] at HQ2 HB2
        clear q0 qf0 HQ HBr hw2
        have HQ := HQ2
        have HBr := HB2
        clear HQ2 HB2
        have q0 : World.cell? w2 ⟨wr.heap.size, 0, none⟩ = some (.int .u8 30) := HQ.out.1.1
        have q1 : World.cell? w2 ⟨wr.heap.size, 1, none⟩ = some (.int .i64 x.a) := HQ.out.1.2.1
        have q2 : World.cell? w2 ⟨wr.heap.size, 2, none⟩ = some (.int .i64 x.b) := HQ.out.1.2.2.1
        have q3 : World.cell? w2 ⟨wr.heap.size, 3, none⟩ = some (.int .i64 x.c) := HQ.out.1.2.2.2.1
        have q4 : World.cell? w2 ⟨wr.heap.size, 4, none⟩ = some (.int .i64 x.d) := HQ.out.1.2.2.2.2
        have qf0 := HQ.out.2 0 (by omega)
        have qf1 := HQ.out.2 1 (by omega)
        have qf2 := HQ.out.2 2 (by omega)
        have i0 := (HR.out.below HBr.out).img
        go_upto_region 14 with ((go_at_call 18; refine (rpartner_any _ n cap l x.a _ (HS.out.below (below_on HR.out.bel HBr.out)) HN.out hw).mono ?_; rintro e w3 ⟨rfl, hb⟩; rw [HRP.out]; replace HBr := Lib.hid (below_on HBr.out hb); replace HQ := Lib.hid (HQ.out.on hb); clear q0 q1 q2 q3 q4 qf0 qf1 qf2 i0; clear hb; have q0 : World.cell? w3 ⟨wr.heap.size, 0, none⟩ = some (.int .u8 30) := HQ.out.1.1; have q1 : World.cell? w3 ⟨wr.heap.size, 1, none⟩ = some (.int .i64 x.a) := HQ.out.1.2.1; have q2 : World.cell? w3 ⟨wr.heap.size, 2, none⟩ = some (.int .i64 x.b) := HQ.out.1.2.2.1; have q3 : World.cell? w3 ⟨wr.heap.size, 3, none⟩ = some (.int .i64 x.c) := HQ.out.1.2.2.2.1; have q4 : World.cell? w3 ⟨wr.heap.size, 4, none⟩ = some (.int .i64 x.d) := HQ.out.1.2.2.2.2; have qf0 := HQ.out.2 0 (by omega); have qf1 := HQ.out.2 1 (by omega); have qf2 := HQ.out.2 2 (by omega); have i0 := (HR.out.below HBr.out).img))
        generalize hw7 : World.setCell _ ⟨wr.heap.size, 1, none⟩ (.int .i64 ((n : Int) - 1 - e)) = w7
        have HQ7 := Lib.hid (HQ.out.set1 ((n : Int) - 1 - e))
        have HB7 := Lib.hid (HBr.out.setCell (p := ⟨wr.heap.size, 1, none⟩) (Nat.le_refl _) (.int .i64 ((n : Int) - 1 - e)))
        rw [hw7] at HQ7 HB7
        clear q0 q1 q2 q3 q4 qf0 qf1 qf2 i0
        clear HQ HBr hw7
        have HQ := HQ7
        have HBr := HB7
        clear HQ7 HB7
        have q0 : World.cell? w7 ⟨wr.heap.size, 0, none⟩ = some (.int .u8 30) := HQ.out.1.1
        have q1 : World.cell? w7 ⟨wr.heap.size, 1, none⟩ = some (.int .i64 ((n : Int) - 1 - e)) := HQ.out.1.2.1
        have q2 : World.cell? w7 ⟨wr.heap.size, 2, none⟩ = some (.int .i64 x.b) := HQ.out.1.2.2.1
        have q3 : World.cell? w7 ⟨wr.heap.size, 3, none⟩ = some (.int .i64 x.c) := HQ.out.1.2.2.2.1
        have q4 : World.cell? w7 ⟨wr.heap.size, 4, none⟩ = some (.int .i64 x.d) := HQ.out.1.2.2.2.2
        have qf0 := HQ.out.2 0 (by omega)
        have qf1 := HQ.out.2 1 (by omega)
        have qf2 := HQ.out.2 2 (by omega)
        have i0 := (HR.out.below HBr.out).img
        have i5 := (HR.out.below HBr.out).out.1
        have hb5 : w.heap.size + 1 + 1 + 1 ≤ w7.heap.size := by
          have h1 := World.block_lt_of_cell? _ _ HR.out.out.1
          have h3 := HBr.out.size
          simp only at h1
          omega
        have hlt5 : ((invL l).take k).length ≤ 65536 := by rw [List.length_take]; omega
        go_wp2_with (at_builtin; go_loud (refine wpList_appI rfl _ _ rfl (w.heap.size + 1 + 1 + 1) v ((invL l).take k) rfl ((HR.out.below HBr.out).row.alloc _) _ 1 1 [invI l x] rfl rfl (by rw [HY.out]; exact slice1 _ ⟨_, _, _, _, _⟩) hlt5 (by simp) (by simp; omega) ?_; intro aa cc w6 hown hgr; obtain ⟨⟨j0, j1⟩, hri⟩ := RI.grow ((HR.out.below HBr.out).below (below_new _ _)) hown hgr; have hlen : ((invL l).take k ++ [invI l x]).length = k + 1 := (by rw [← HTK.out, List.length_take, invL_len]; have := HRK.out; have := HN.out; omega); rw [hlen, ← HTK.out] at hri; rw [hlen]; have HRI := Lib.hid hri; clear hown hgr hri hlen))
        go_roundw
        case rel => exact ⟨k + 1, (r : Int) - 1, _, by have := HRK.out; omega, rfl, Lib.hid (by have := HRK.out; omega), by omega, by omega, HRI⟩
        case measure => simp [intOf]
      · have HK := Lib.hid hi
        obtain ⟨p, e, hp, hst⟩ := HD.out.call r x hx (by omega)
        have hel : (e : Int) < (n : Int) := by have := hst.lt; have := HN.out; omega
        have HRP := Lib.hid (show rp l x.a = (e : Int) by rw [hp]; exact rp_some hst.1)
        have HY := Lib.hid (show invI l x = ⟨31, (n : Int) - 1 - e, x.b, x.c, x.d⟩ by
          have ht : tv x.k x.a x.b = x.a := by rw [hk]; rfl
          have hT : invT l x = e := by unfold invT; rw [if_pos (by omega), ht]; have := HRP.out; unfold rp at this; rw [hp, (part_iff l p (e : Int)).2 ⟨e, rfl, hst.1⟩]; rfl
          unfold invI
          rw [hT, HN.out, hk]; rfl)
        clear hx hp hst hk hi
        go_upto_region 8 with ((go_at_call 40; go_loud (refine (refInverse_any x.k _).mono ?_; rintro e w1 ⟨rfl, hb⟩; rw [HK.out]; replace HQ := Lib.hid (HQ.out.on hb); replace HBr := Lib.hid (below_on HBr.out hb); have q0 := HQ.out.1.1; have qf0 := HQ.out.2 0 (by omega); clear hb)))
        generalize hw2 : World.setCell _ ⟨wr.heap.size, 0, none⟩ (.int .u8 31) = w2
        have HQ2 := Lib.hid (HQ.out.set0 31)
        have HB2 := Lib.hid (HBr.out.setCell (p := ⟨wr.heap.size, 0, none⟩) (Nat.le_refl _) (.int .u8 31))
        rw [hw2] at HQ2 HB2
        clear q0 qf0 HQ HBr hw2
        have HQ := HQ2
        have HBr := HB2
        clear HQ2 HB2
        have q0 : World.cell? w2 ⟨wr.heap.size, 0, none⟩ = some (.int .u8 31) := HQ.out.1.1
        have q1 : World.cell? w2 ⟨wr.heap.size, 1, none⟩ = some (.int .i64 x.a) := HQ.out.1.2.1
        have q2 : World.cell? w2 ⟨wr.heap.size, 2, none⟩ = some (.int .i64 x.b) := HQ.out.1.2.2.1
        have q3 : World.cell? w2 ⟨wr.heap.size, 3, none⟩ = some (.int .i64 x.c) := HQ.out.1.2.2.2.1
        have q4 : World.cell? w2 ⟨wr.heap.size, 4, none⟩ = some (.int .i64 x.d) := HQ.out.1.2.2.2.2
        have qf0 := HQ.out.2 0 (by omega)
        have qf1 := HQ.out.2 1 (by omega)
        have qf2 := HQ.out.2 2 (by omega)
        have i0 := (HR.out.below HBr.out).img
        go_upto_region 14 with ((go_at_call 18; refine (rpartner_any _ n cap l x.a _ (HS.out.below (below_on HR.out.bel HBr.out)) HN.out hw).mono ?_; rintro e w3 ⟨rfl, hb⟩; rw [HRP.out]; replace HBr := Lib.hid (below_on HBr.out hb); replace HQ := Lib.hid (HQ.out.on hb); clear q0 q1 q2 q3 q4 qf0 qf1 qf2 i0; clear hb; have q0 : World.cell? w3 ⟨wr.heap.size, 0, none⟩ = some (.int .u8 31) := HQ.out.1.1; have q1 : World.cell? w3 ⟨wr.heap.size, 1, none⟩ = some (.int .i64 x.a) := HQ.out.1.2.1; have q2 : World.cell? w3 ⟨wr.heap.size, 2, none⟩ = some (.int .i64 x.b) := HQ.out.1.2.2.1; have q3 : World.cell? w3 ⟨wr.heap.size, 3, none⟩ = some (.int .i64 x.c) := HQ.out.1.2.2.2.1; have q4 : World.cell? w3 ⟨wr.heap.size, 4, none⟩ = some (.int .i64 x.d) := HQ.out.1.2.2.2.2; have qf0 := HQ.out.2 0 (by omega); have qf1 := HQ.out.2 1 (by omega); have qf2 := HQ.out.2 2 (by omega); have i0 := (HR.out.below HBr.out).img))
        generalize hw7 : World.setCell _ ⟨wr.heap.size, 1, none⟩ (.int .i64 ((n : Int) - 1 - e)) = w7
        have HQ7 := Lib.hid (HQ.out.set1 ((n : Int) - 1 - e))
        have HB7 := Lib.hid (HBr.out.setCell (p := ⟨wr.heap.size, 1, none⟩) (Nat.le_refl _) (.int .i64 ((n : Int) - 1 - e)))
        rw [hw7] at HQ7 HB7
        clear q0 q1 q2 q3 q4 qf0 qf1 qf2 i0
        clear HQ HBr hw7
        have HQ := HQ7
        have HBr := HB7
        clear HQ7 HB7
        have q0 : World.cell? w7 ⟨wr.heap.size, 0, none⟩ = some (.int .u8 31) := HQ.out.1.1
        have q1 : World.cell? w7 ⟨wr.heap.size, 1, none⟩ = some (.int .i64 ((n : Int) - 1 - e)) := HQ.out.1.2.1
        have q2 : World.cell? w7 ⟨wr.heap.size, 2, none⟩ = some (.int .i64 x.b) := HQ.out.1.2.2.1
        have q3 : World.cell? w7 ⟨wr.heap.size, 3, none⟩ = some (.int .i64 x.c) := HQ.out.1.2.2.2.1
        have q4 : World.cell? w7 ⟨wr.heap.size, 4, none⟩ = some (.int .i64 x.d) := HQ.out.1.2.2.2.2
        have qf0 := HQ.out.2 0 (by omega)
        have qf1 := HQ.out.2 1 (by omega)
        have qf2 := HQ.out.2 2 (by omega)
        have i0 := (HR.out.below HBr.out).img
        have i5 := (HR.out.below HBr.out).out.1
        have hb5 : w.heap.size + 1 + 1 + 1 ≤ w7.heap.size := by
          have h1 := World.block_lt_of_cell? _ _ HR.out.out.1
          have h3 := HBr.out.size
          simp only at h1
          omega
        have hlt5 : ((invL l).take k).length ≤ 65536 := by rw [List.length_take]; omega
        go_wp2_with (at_builtin; go_loud (refine wpList_appI rfl _ _ rfl (w.heap.size + 1 + 1 + 1) v ((invL l).take k) rfl ((HR.out.below HBr.out).row.alloc _) _ 1 1 [invI l x] rfl rfl (by rw [HY.out]; exact slice1 _ ⟨_, _, _, _, _⟩) hlt5 (by simp) (by simp; omega) ?_; intro aa cc w6 hown hgr; obtain ⟨⟨j0, j1⟩, hri⟩ := RI.grow ((HR.out.below HBr.out).below (below_new _ _)) hown hgr; have hlen : ((invL l).take k ++ [invI l x]).length = k + 1 := (by rw [← HTK.out, List.length_take, invL_len]; have := HRK.out; have := HN.out; omega); rw [hlen, ← HTK.out] at hri; rw [hlen]; have HRI := Lib.hid hri; clear hown hgr hri hlen))
        go_roundw
        case rel => exact ⟨k + 1, (r : Int) - 1, _, by have := HRK.out; omega, rfl, Lib.hid (by have := HRK.out; omega), by omega, by omega, HRI⟩
        case measure => simp [intOf]
      · have hta := vld_tv hvx (by unfold tb; simp [ht])
        have htv : tv x.k x.a x.b = x.a := by unfold tv; rw [if_pos ht]
        rw [htv] at hta
        obtain ⟨t1, t2⟩ := hta
        have hT : invT l x = x.a := by unfold invT; rw [if_neg (by omega), htv]
        have hI : invI l x = ⟨invO x.k, (n : Int) - 1 - x.a, x.b, x.c, x.d⟩ := by
          unfold invI rta rtb
          rw [hT, HN.out, if_pos ht, if_neg (by omega)]
        clear hx ht n30 n31 htv hT hvx
        rcases hk with hk | hk | hk | hk
        · rw [hk] at hI
          have HY := Lib.hid hI
          clear hI
          have HK := Lib.hid hk
          have HTG := Lib.hid (show rtg 22 x.a x.b = x.a from rfl)
          clear hk
          go_upto_region 8 with ((go_at_call 40; go_loud (refine (refInverse_any x.k _).mono ?_; rintro e w1 ⟨rfl, hb⟩; rw [HK.out]; replace HQ := Lib.hid (HQ.out.on hb); replace HBr := Lib.hid (below_on HBr.out hb); have q0 := HQ.out.1.1; have qf0 := HQ.out.2 0 (by omega); clear hb)))
          generalize hw2 : World.setCell _ ⟨wr.heap.size, 0, none⟩ (.int .u8 22) = w2
          have HQ2 := Lib.hid (HQ.out.set0 22)
          have HB2 := Lib.hid (HBr.out.setCell (p := ⟨wr.heap.size, 0, none⟩) (Nat.le_refl _) (.int .u8 22))
          rw [hw2] at HQ2 HB2
          clear q0 qf0 HQ HBr hw2
          have HQ := HQ2
          have HBr := HB2
          clear HQ2 HB2
          have q0 : World.cell? w2 ⟨wr.heap.size, 0, none⟩ = some (.int .u8 22) := HQ.out.1.1
          have q1 : World.cell? w2 ⟨wr.heap.size, 1, none⟩ = some (.int .i64 x.a) := HQ.out.1.2.1
          have q2 : World.cell? w2 ⟨wr.heap.size, 2, none⟩ = some (.int .i64 x.b) := HQ.out.1.2.2.1
          have q3 : World.cell? w2 ⟨wr.heap.size, 3, none⟩ = some (.int .i64 x.c) := HQ.out.1.2.2.2.1
          have q4 : World.cell? w2 ⟨wr.heap.size, 4, none⟩ = some (.int .i64 x.d) := HQ.out.1.2.2.2.2
          have qf0 := HQ.out.2 0 (by omega)
          have qf1 := HQ.out.2 1 (by omega)
          have qf2 := HQ.out.2 2 (by omega)
          have i0 := (HR.out.below HBr.out).img
          go_upto_region 14 with ((go_at_call 37; refine (rtarget_any 22 x.a x.b x.c x.d _).mono ?_; rintro e w3 ⟨rfl, hb⟩; rw [HTG.out]; replace HBr := Lib.hid (below_on HBr.out hb); replace HQ := Lib.hid (HQ.out.on hb); clear q0 q1 q2 q3 q4 qf0 qf1 qf2 i0; clear hb; have q0 : World.cell? w3 ⟨wr.heap.size, 0, none⟩ = some (.int .u8 22) := HQ.out.1.1; have q1 : World.cell? w3 ⟨wr.heap.size, 1, none⟩ = some (.int .i64 x.a) := HQ.out.1.2.1; have q2 : World.cell? w3 ⟨wr.heap.size, 2, none⟩ = some (.int .i64 x.b) := HQ.out.1.2.2.1; have q3 : World.cell? w3 ⟨wr.heap.size, 3, none⟩ = some (.int .i64 x.c) := HQ.out.1.2.2.2.1; have q4 : World.cell? w3 ⟨wr.heap.size, 4, none⟩ = some (.int .i64 x.d) := HQ.out.1.2.2.2.2; have qf0 := HQ.out.2 0 (by omega); have qf1 := HQ.out.2 1 (by omega); have qf2 := HQ.out.2 2 (by omega); have i0 := (HR.out.below HBr.out).img))
          generalize hw7 : World.setCell _ ⟨wr.heap.size, 1, none⟩ (.int .i64 ((n : Int) - 1 - x.a)) = w7
          have HQ7 := Lib.hid (HQ.out.set1 ((n : Int) - 1 - x.a))
          have HB7 := Lib.hid (HBr.out.setCell (p := ⟨wr.heap.size, 1, none⟩) (Nat.le_refl _) (.int .i64 ((n : Int) - 1 - x.a)))
          rw [hw7] at HQ7 HB7
          clear q0 q1 q2 q3 q4 qf0 qf1 qf2 i0
          clear HQ HBr hw7
          have HQ := HQ7
          have HBr := HB7
          clear HQ7 HB7
          have q0 : World.cell? w7 ⟨wr.heap.size, 0, none⟩ = some (.int .u8 22) := HQ.out.1.1
          have q1 : World.cell? w7 ⟨wr.heap.size, 1, none⟩ = some (.int .i64 ((n : Int) - 1 - x.a)) := HQ.out.1.2.1
          have q2 : World.cell? w7 ⟨wr.heap.size, 2, none⟩ = some (.int .i64 x.b) := HQ.out.1.2.2.1
          have q3 : World.cell? w7 ⟨wr.heap.size, 3, none⟩ = some (.int .i64 x.c) := HQ.out.1.2.2.2.1
          have q4 : World.cell? w7 ⟨wr.heap.size, 4, none⟩ = some (.int .i64 x.d) := HQ.out.1.2.2.2.2
          have qf0 := HQ.out.2 0 (by omega)
          have qf1 := HQ.out.2 1 (by omega)
          have qf2 := HQ.out.2 2 (by omega)
          have i0 := (HR.out.below HBr.out).img
          have i5 := (HR.out.below HBr.out).out.1
          have hb5 : w.heap.size + 1 + 1 + 1 ≤ w7.heap.size := by
            have h1 := World.block_lt_of_cell? _ _ HR.out.out.1
            have h3 := HBr.out.size
            simp only at h1
            omega
          have hlt5 : ((invL l).take k).length ≤ 65536 := by rw [List.length_take]; omega
          go_wp2_with (at_builtin; go_loud (refine wpList_appI rfl _ _ rfl (w.heap.size + 1 + 1 + 1) v ((invL l).take k) rfl ((HR.out.below HBr.out).row.alloc _) _ 1 1 [invI l x] rfl rfl (by rw [HY.out]; exact slice1 _ ⟨_, _, _, _, _⟩) hlt5 (by simp) (by simp; omega) ?_; intro aa cc w6 hown hgr; obtain ⟨⟨j0, j1⟩, hri⟩ := RI.grow ((HR.out.below HBr.out).below (below_new _ _)) hown hgr; have hlen : ((invL l).take k ++ [invI l x]).length = k + 1 := (by rw [← HTK.out, List.length_take, invL_len]; have := HRK.out; have := HN.out; omega); rw [hlen, ← HTK.out] at hri; rw [hlen]; have HRI := Lib.hid hri; clear hown hgr hri hlen))
          go_roundw
          case rel => exact ⟨k + 1, (r : Int) - 1, _, by have := HRK.out; omega, rfl, Lib.hid (by have := HRK.out; omega), by omega, by omega, HRI⟩
          case measure => simp [intOf]
        · rw [hk] at hI
          have HY := Lib.hid hI
          clear hI
          have HK := Lib.hid hk
          have HTG := Lib.hid (show rtg 25 x.a x.b = x.a from rfl)
          clear hk
          go_upto_region 8 with ((go_at_call 40; go_loud (refine (refInverse_any x.k _).mono ?_; rintro e w1 ⟨rfl, hb⟩; rw [HK.out]; replace HQ := Lib.hid (HQ.out.on hb); replace HBr := Lib.hid (below_on HBr.out hb); have q0 := HQ.out.1.1; have qf0 := HQ.out.2 0 (by omega); clear hb)))
          generalize hw2 : World.setCell _ ⟨wr.heap.size, 0, none⟩ (.int .u8 25) = w2
          have HQ2 := Lib.hid (HQ.out.set0 25)
          have HB2 := Lib.hid (HBr.out.setCell (p := ⟨wr.heap.size, 0, none⟩) (Nat.le_refl _) (.int .u8 25))
          rw [hw2] at HQ2 HB2
          clear q0 qf0 HQ HBr hw2
          have HQ := HQ2
          have HBr := HB2
          clear HQ2 HB2
          have q0 : World.cell? w2 ⟨wr.heap.size, 0, none⟩ = some (.int .u8 25) := HQ.out.1.1
          have q1 : World.cell? w2 ⟨wr.heap.size, 1, none⟩ = some (.int .i64 x.a) := HQ.out.1.2.1
          have q2 : World.cell? w2 ⟨wr.heap.size, 2, none⟩ = some (.int .i64 x.b) := HQ.out.1.2.2.1
          have q3 : World.cell? w2 ⟨wr.heap.size, 3, none⟩ = some (.int .i64 x.c) := HQ.out.1.2.2.2.1
          have q4 : World.cell? w2 ⟨wr.heap.size, 4, none⟩ = some (.int .i64 x.d) := HQ.out.1.2.2.2.2
          have qf0 := HQ.out.2 0 (by omega)
          have qf1 := HQ.out.2 1 (by omega)
          have qf2 := HQ.out.2 2 (by omega)
          have i0 := (HR.out.below HBr.out).img
          go_upto_region 14 with ((go_at_call 37; refine (rtarget_any 25 x.a x.b x.c x.d _).mono ?_; rintro e w3 ⟨rfl, hb⟩; rw [HTG.out]; replace HBr := Lib.hid (below_on HBr.out hb); replace HQ := Lib.hid (HQ.out.on hb); clear q0 q1 q2 q3 q4 qf0 qf1 qf2 i0; clear hb; have q0 : World.cell? w3 ⟨wr.heap.size, 0, none⟩ = some (.int .u8 25) := HQ.out.1.1; have q1 : World.cell? w3 ⟨wr.heap.size, 1, none⟩ = some (.int .i64 x.a) := HQ.out.1.2.1; have q2 : World.cell? w3 ⟨wr.heap.size, 2, none⟩ = some (.int .i64 x.b) := HQ.out.1.2.2.1; have q3 : World.cell? w3 ⟨wr.heap.size, 3, none⟩ = some (.int .i64 x.c) := HQ.out.1.2.2.2.1; have q4 : World.cell? w3 ⟨wr.heap.size, 4, none⟩ = some (.int .i64 x.d) := HQ.out.1.2.2.2.2; have qf0 := HQ.out.2 0 (by omega); have qf1 := HQ.out.2 1 (by omega); have qf2 := HQ.out.2 2 (by omega); have i0 := (HR.out.below HBr.out).img))
          generalize hw7 : World.setCell _ ⟨wr.heap.size, 1, none⟩ (.int .i64 ((n : Int) - 1 - x.a)) = w7
          have HQ7 := Lib.hid (HQ.out.set1 ((n : Int) - 1 - x.a))
          have HB7 := Lib.hid (HBr.out.setCell (p := ⟨wr.heap.size, 1, none⟩) (Nat.le_refl _) (.int .i64 ((n : Int) - 1 - x.a)))
          rw [hw7] at HQ7 HB7
          clear q0 q1 q2 q3 q4 qf0 qf1 qf2 i0
          clear HQ HBr hw7
          have HQ := HQ7
          have HBr := HB7
          clear HQ7 HB7
          have q0 : World.cell? w7 ⟨wr.heap.size, 0, none⟩ = some (.int .u8 25) := HQ.out.1.1
          have q1 : World.cell? w7 ⟨wr.heap.size, 1, none⟩ = some (.int .i64 ((n : Int) - 1 - x.a)) := HQ.out.1.2.1
          have q2 : World.cell? w7 ⟨wr.heap.size, 2, none⟩ = some (.int .i64 x.b) := HQ.out.1.2.2.1
          have q3 : World.cell? w7 ⟨wr.heap.size, 3, none⟩ = some (.int .i64 x.c) := HQ.out.1.2.2.2.1
          have q4 : World.cell? w7 ⟨wr.heap.size, 4, none⟩ = some (.int .i64 x.d) := HQ.out.1.2.2.2.2
          have qf0 := HQ.out.2 0 (by omega)
          have qf1 := HQ.out.2 1 (by omega)
          have qf2 := HQ.out.2 2 (by omega)
          have i0 := (HR.out.below HBr.out).img
          have i5 := (HR.out.below HBr.out).out.1
          have hb5 : w.heap.size + 1 + 1 + 1 ≤ w7.heap.size := by
            have h1 := World.block_lt_of_cell? _ _ HR.out.out.1
            have h3 := HBr.out.size
            simp only at h1
            omega
          have hlt5 : ((invL l).take k).length ≤ 65536 := by rw [List.length_take]; omega
          go_wp2_with (at_builtin; go_loud (refine wpList_appI rfl _ _ rfl (w.heap.size + 1 + 1 + 1) v ((invL l).take k) rfl ((HR.out.below HBr.out).row.alloc _) _ 1 1 [invI l x] rfl rfl (by rw [HY.out]; exact slice1 _ ⟨_, _, _, _, _⟩) hlt5 (by simp) (by simp; omega) ?_; intro aa cc w6 hown hgr; obtain ⟨⟨j0, j1⟩, hri⟩ := RI.grow ((HR.out.below HBr.out).below (below_new _ _)) hown hgr; have hlen : ((invL l).take k ++ [invI l x]).length = k + 1 := (by rw [← HTK.out, List.length_take, invL_len]; have := HRK.out; have := HN.out; omega); rw [hlen, ← HTK.out] at hri; rw [hlen]; have HRI := Lib.hid hri; clear hown hgr hri hlen))
          go_roundw
          case rel => exact ⟨k + 1, (r : Int) - 1, _, by have := HRK.out; omega, rfl, Lib.hid (by have := HRK.out; omega), by omega, by omega, HRI⟩
          case measure => simp [intOf]
        · rw [hk] at hI
          have HY := Lib.hid hI
          clear hI
          have HK := Lib.hid hk
          have HTG := Lib.hid (show rtg 32 x.a x.b = x.a from rfl)
          clear hk
          go_upto_region 8 with ((go_at_call 40; go_loud (refine (refInverse_any x.k _).mono ?_; rintro e w1 ⟨rfl, hb⟩; rw [HK.out]; replace HQ := Lib.hid (HQ.out.on hb); replace HBr := Lib.hid (below_on HBr.out hb); have q0 := HQ.out.1.1; have qf0 := HQ.out.2 0 (by omega); clear hb)))
          generalize hw2 : World.setCell _ ⟨wr.heap.size, 0, none⟩ (.int .u8 32) = w2
          have HQ2 := Lib.hid (HQ.out.set0 32)
          have HB2 := Lib.hid (HBr.out.setCell (p := ⟨wr.heap.size, 0, none⟩) (Nat.le_refl _) (.int .u8 32))
          rw [hw2] at HQ2 HB2
          clear q0 qf0 HQ HBr hw2
          have HQ := HQ2
          have HBr := HB2
          clear HQ2 HB2
          have q0 : World.cell? w2 ⟨wr.heap.size, 0, none⟩ = some (.int .u8 32) := HQ.out.1.1
          have q1 : World.cell? w2 ⟨wr.heap.size, 1, none⟩ = some (.int .i64 x.a) := HQ.out.1.2.1
          have q2 : World.cell? w2 ⟨wr.heap.size, 2, none⟩ = some (.int .i64 x.b) := HQ.out.1.2.2.1
          have q3 : World.cell? w2 ⟨wr.heap.size, 3, none⟩ = some (.int .i64 x.c) := HQ.out.1.2.2.2.1
          have q4 : World.cell? w2 ⟨wr.heap.size, 4, none⟩ = some (.int .i64 x.d) := HQ.out.1.2.2.2.2
          have qf0 := HQ.out.2 0 (by omega)
          have qf1 := HQ.out.2 1 (by omega)
          have qf2 := HQ.out.2 2 (by omega)
          have i0 := (HR.out.below HBr.out).img
          go_upto_region 14 with ((go_at_call 37; refine (rtarget_any 32 x.a x.b x.c x.d _).mono ?_; rintro e w3 ⟨rfl, hb⟩; rw [HTG.out]; replace HBr := Lib.hid (below_on HBr.out hb); replace HQ := Lib.hid (HQ.out.on hb); clear q0 q1 q2 q3 q4 qf0 qf1 qf2 i0; clear hb; have q0 : World.cell? w3 ⟨wr.heap.size, 0, none⟩ = some (.int .u8 32) := HQ.out.1.1; have q1 : World.cell? w3 ⟨wr.heap.size, 1, none⟩ = some (.int .i64 x.a) := HQ.out.1.2.1; have q2 : World.cell? w3 ⟨wr.heap.size, 2, none⟩ = some (.int .i64 x.b) := HQ.out.1.2.2.1; have q3 : World.cell? w3 ⟨wr.heap.size, 3, none⟩ = some (.int .i64 x.c) := HQ.out.1.2.2.2.1; have q4 : World.cell? w3 ⟨wr.heap.size, 4, none⟩ = some (.int .i64 x.d) := HQ.out.1.2.2.2.2; have qf0 := HQ.out.2 0 (by omega); have qf1 := HQ.out.2 1 (by omega); have qf2 := HQ.out.2 2 (by omega); have i0 := (HR.out.below HBr.out).img))
          generalize hw7 : World.setCell _ ⟨wr.heap.size, 1, none⟩ (.int .i64 ((n : Int) - 1 - x.a)) = w7
          have HQ7 := Lib.hid (HQ.out.set1 ((n : Int) - 1 - x.a))
          have HB7 := Lib.hid (HBr.out.setCell (p := ⟨wr.heap.size, 1, none⟩) (Nat.le_refl _) (.int .i64 ((n : Int) - 1 - x.a)))
          rw [hw7] at HQ7 HB7
          clear q0 q1 q2 q3 q4 qf0 qf1 qf2 i0
          clear HQ HBr hw7
          have HQ := HQ7
          have HBr := HB7
          clear HQ7 HB7
          have q0 : World.cell? w7 ⟨wr.heap.size, 0, none⟩ = some (.int .u8 32) := HQ.out.1.1
          have q1 : World.cell? w7 ⟨wr.heap.size, 1, none⟩ = some (.int .i64 ((n : Int) - 1 - x.a)) := HQ.out.1.2.1
          have q2 : World.cell? w7 ⟨wr.heap.size, 2, none⟩ = some (.int .i64 x.b) := HQ.out.1.2.2.1
          have q3 : World.cell? w7 ⟨wr.heap.size, 3, none⟩ = some (.int .i64 x.c) := HQ.out.1.2.2.2.1
          have q4 : World.cell? w7 ⟨wr.heap.size, 4, none⟩ = some (.int .i64 x.d) := HQ.out.1.2.2.2.2
          have qf0 := HQ.out.2 0 (by omega)
          have qf1 := HQ.out.2 1 (by omega)
          have qf2 := HQ.out.2 2 (by omega)
          have i0 := (HR.out.below HBr.out).img
          have i5 := (HR.out.below HBr.out).out.1
          have hb5 : w.heap.size + 1 + 1 + 1 ≤ w7.heap.size := by
            have h1 := World.block_lt_of_cell? _ _ HR.out.out.1
            have h3 := HBr.out.size
            simp only at h1
            omega
          have hlt5 : ((invL l).take k).length ≤ 65536 := by rw [List.length_take]; omega
          go_wp2_with (at_builtin; go_loud (refine wpList_appI rfl _ _ rfl (w.heap.size + 1 + 1 + 1) v ((invL l).take k) rfl ((HR.out.below HBr.out).row.alloc _) _ 1 1 [invI l x] rfl rfl (by rw [HY.out]; exact slice1 _ ⟨_, _, _, _, _⟩) hlt5 (by simp) (by simp; omega) ?_; intro aa cc w6 hown hgr; obtain ⟨⟨j0, j1⟩, hri⟩ := RI.grow ((HR.out.below HBr.out).below (below_new _ _)) hown hgr; have hlen : ((invL l).take k ++ [invI l x]).length = k + 1 := (by rw [← HTK.out, List.length_take, invL_len]; have := HRK.out; have := HN.out; omega); rw [hlen, ← HTK.out] at hri; rw [hlen]; have HRI := Lib.hid hri; clear hown hgr hri hlen))
          go_roundw
          case rel => exact ⟨k + 1, (r : Int) - 1, _, by have := HRK.out; omega, rfl, Lib.hid (by have := HRK.out; omega), by omega, by omega, HRI⟩
          case measure => simp [intOf]
        · rw [hk] at hI
          have HY := Lib.hid hI
          clear hI
          have HK := Lib.hid hk
          have HTG := Lib.hid (show rtg 33 x.a x.b = x.a from rfl)
          clear hk
          go_upto_region 8 with ((go_at_call 40; go_loud (refine (refInverse_any x.k _).mono ?_; rintro e w1 ⟨rfl, hb⟩; rw [HK.out]; replace HQ := Lib.hid (HQ.out.on hb); replace HBr := Lib.hid (below_on HBr.out hb); have q0 := HQ.out.1.1; have qf0 := HQ.out.2 0 (by omega); clear hb)))
          generalize hw2 : World.setCell _ ⟨wr.heap.size, 0, none⟩ (.int .u8 33) = w2
          have HQ2 := Lib.hid (HQ.out.set0 33)
          have HB2 := Lib.hid (HBr.out.setCell (p := ⟨wr.heap.size, 0, none⟩) (Nat.le_refl _) (.int .u8 33))
          rw [hw2] at HQ2 HB2
          clear q0 qf0 HQ HBr hw2
          have HQ := HQ2
          have HBr := HB2
          clear HQ2 HB2
          have q0 : World.cell? w2 ⟨wr.heap.size, 0, none⟩ = some (.int .u8 33) := HQ.out.1.1
          have q1 : World.cell? w2 ⟨wr.heap.size, 1, none⟩ = some (.int .i64 x.a) := HQ.out.1.2.1
          have q2 : World.cell? w2 ⟨wr.heap.size, 2, none⟩ = some (.int .i64 x.b) := HQ.out.1.2.2.1
          have q3 : World.cell? w2 ⟨wr.heap.size, 3, none⟩ = some (.int .i64 x.c) := HQ.out.1.2.2.2.1
          have q4 : World.cell? w2 ⟨wr.heap.size, 4, none⟩ = some (.int .i64 x.d) := HQ.out.1.2.2.2.2
          have qf0 := HQ.out.2 0 (by omega)
          have qf1 := HQ.out.2 1 (by omega)
          have qf2 := HQ.out.2 2 (by omega)
          have i0 := (HR.out.below HBr.out).img
          go_upto_region 14 with ((go_at_call 37; refine (rtarget_any 33 x.a x.b x.c x.d _).mono ?_; rintro e w3 ⟨rfl, hb⟩; rw [HTG.out]; replace HBr := Lib.hid (below_on HBr.out hb); replace HQ := Lib.hid (HQ.out.on hb); clear q0 q1 q2 q3 q4 qf0 qf1 qf2 i0; clear hb; have q0 : World.cell? w3 ⟨wr.heap.size, 0, none⟩ = some (.int .u8 33) := HQ.out.1.1; have q1 : World.cell? w3 ⟨wr.heap.size, 1, none⟩ = some (.int .i64 x.a) := HQ.out.1.2.1; have q2 : World.cell? w3 ⟨wr.heap.size, 2, none⟩ = some (.int .i64 x.b) := HQ.out.1.2.2.1; have q3 : World.cell? w3 ⟨wr.heap.size, 3, none⟩ = some (.int .i64 x.c) := HQ.out.1.2.2.2.1; have q4 : World.cell? w3 ⟨wr.heap.size, 4, none⟩ = some (.int .i64 x.d) := HQ.out.1.2.2.2.2; have qf0 := HQ.out.2 0 (by omega); have qf1 := HQ.out.2 1 (by omega); have qf2 := HQ.out.2 2 (by omega); have i0 := (HR.out.below HBr.out).img))
          generalize hw7 : World.setCell _ ⟨wr.heap.size, 1, none⟩ (.int .i64 ((n : Int) - 1 - x.a)) = w7
          have HQ7 := Lib.hid (HQ.out.set1 ((n : Int) - 1 - x.a))
          have HB7 := Lib.hid (HBr.out.setCell (p := ⟨wr.heap.size, 1, none⟩) (Nat.le_refl _) (.int .i64 ((n : Int) - 1 - x.a)))
          rw [hw7] at HQ7 HB7
          clear q0 q1 q2 q3 q4 qf0 qf1 qf2 i0
          clear HQ HBr hw7
          have HQ := HQ7
          have HBr := HB7
          clear HQ7 HB7
          have q0 : World.cell? w7 ⟨wr.heap.size, 0, none⟩ = some (.int .u8 33) := HQ.out.1.1
          have q1 : World.cell? w7 ⟨wr.heap.size, 1, none⟩ = some (.int .i64 ((n : Int) - 1 - x.a)) := HQ.out.1.2.1
          have q2 : World.cell? w7 ⟨wr.heap.size, 2, none⟩ = some (.int .i64 x.b) := HQ.out.1.2.2.1
          have q3 : World.cell? w7 ⟨wr.heap.size, 3, none⟩ = some (.int .i64 x.c) := HQ.out.1.2.2.2.1
          have q4 : World.cell? w7 ⟨wr.heap.size, 4, none⟩ = some (.int .i64 x.d) := HQ.out.1.2.2.2.2
          have qf0 := HQ.out.2 0 (by omega)
          have qf1 := HQ.out.2 1 (by omega)
          have qf2 := HQ.out.2 2 (by omega)
          have i0 := (HR.out.below HBr.out).img
          have i5 := (HR.out.below HBr.out).out.1
          have hb5 : w.heap.size + 1 + 1 + 1 ≤ w7.heap.size := by
            have h1 := World.block_lt_of_cell? _ _ HR.out.out.1
            have h3 := HBr.out.size
            simp only at h1
            omega
          have hlt5 : ((invL l).take k).length ≤ 65536 := by rw [List.length_take]; omega
          go_wp2_with (at_builtin; go_loud (refine wpList_appI rfl _ _ rfl (w.heap.size + 1 + 1 + 1) v ((invL l).take k) rfl ((HR.out.below HBr.out).row.alloc _) _ 1 1 [invI l x] rfl rfl (by rw [HY.out]; exact slice1 _ ⟨_, _, _, _, _⟩) hlt5 (by simp) (by simp; omega) ?_; intro aa cc w6 hown hgr; obtain ⟨⟨j0, j1⟩, hri⟩ := RI.grow ((HR.out.below HBr.out).below (below_new _ _)) hown hgr; have hlen : ((invL l).take k ++ [invI l x]).length = k + 1 := (by rw [← HTK.out, List.length_take, invL_len]; have := HRK.out; have := HN.out; omega); rw [hlen, ← HTK.out] at hri; rw [hlen]; have HRI := Lib.hid hri; clear hown hgr hri hlen))
          go_roundw
          case rel => exact ⟨k + 1, (r : Int) - 1, _, by have := HRK.out; omega, rfl, Lib.hid (by have := HRK.out; omega), by omega, by omega, HRI⟩
          case measure => simp [intOf]
      · have hta := vld_tv hvx (by unfold tb; simp [ht])
        have htv : tv x.k x.a x.b = x.b := by unfold tv; rw [if_neg (by omega), if_pos ht]
        rw [htv] at hta
        obtain ⟨t1, t2⟩ := hta
        have n30 : ¬ (x.k = 30 ∨ x.k = 31) := by rintro (e | e) <;> rw [e] at ht <;> exact absurd ht (by decide)
        have hT : invT l x = x.b := by unfold invT; rw [if_neg n30, htv]
        have hI : invI l x = ⟨invO x.k, x.a, (n : Int) - 1 - x.b, x.c, x.d⟩ := by
          unfold invI rta rtb
          rw [hT, HN.out, if_neg (by omega), if_pos ht]
        clear hx ht n30 htv hT hvx
        rcases hk with hk | hk | hk | hk
        · rw [hk] at hI
          have HY := Lib.hid hI
          clear hI
          have HK := Lib.hid hk
          have HTG := Lib.hid (show rtg 23 x.a x.b = x.b from rfl)
          clear hk
          go_upto_region 8 with ((go_at_call 40; go_loud (refine (refInverse_any x.k _).mono ?_; rintro e w1 ⟨rfl, hb⟩; rw [HK.out]; replace HQ := Lib.hid (HQ.out.on hb); replace HBr := Lib.hid (below_on HBr.out hb); have q0 := HQ.out.1.1; have qf0 := HQ.out.2 0 (by omega); clear hb)))
          generalize hw2 : World.setCell _ ⟨wr.heap.size, 0, none⟩ (.int .u8 23) = w2
          have HQ2 := Lib.hid (HQ.out.set0 23)
          have HB2 := Lib.hid (HBr.out.setCell (p := ⟨wr.heap.size, 0, none⟩) (Nat.le_refl _) (.int .u8 23))
          rw [hw2] at HQ2 HB2
          clear q0 qf0 HQ HBr hw2
          have HQ := HQ2
          have HBr := HB2
          clear HQ2 HB2
          have q0 : World.cell? w2 ⟨wr.heap.size, 0, none⟩ = some (.int .u8 23) := HQ.out.1.1
          have q1 : World.cell? w2 ⟨wr.heap.size, 1, none⟩ = some (.int .i64 x.a) := HQ.out.1.2.1
          have q2 : World.cell? w2 ⟨wr.heap.size, 2, none⟩ = some (.int .i64 x.b) := HQ.out.1.2.2.1
          have q3 : World.cell? w2 ⟨wr.heap.size, 3, none⟩ = some (.int .i64 x.c) := HQ.out.1.2.2.2.1
          have q4 : World.cell? w2 ⟨wr.heap.size, 4, none⟩ = some (.int .i64 x.d) := HQ.out.1.2.2.2.2
          have qf0 := HQ.out.2 0 (by omega)
          have qf1 := HQ.out.2 1 (by omega)
          have qf2 := HQ.out.2 2 (by omega)
          have i0 := (HR.out.below HBr.out).img
          go_upto_region 14 with ((go_at_call 37; refine (rtarget_any 23 x.a x.b x.c x.d _).mono ?_; rintro e w3 ⟨rfl, hb⟩; rw [HTG.out]; replace HBr := Lib.hid (below_on HBr.out hb); replace HQ := Lib.hid (HQ.out.on hb); clear q0 q1 q2 q3 q4 qf0 qf1 qf2 i0; clear hb; have q0 : World.cell? w3 ⟨wr.heap.size, 0, none⟩ = some (.int .u8 23) := HQ.out.1.1; have q1 : World.cell? w3 ⟨wr.heap.size, 1, none⟩ = some (.int .i64 x.a) := HQ.out.1.2.1; have q2 : World.cell? w3 ⟨wr.heap.size, 2, none⟩ = some (.int .i64 x.b) := HQ.out.1.2.2.1; have q3 : World.cell? w3 ⟨wr.heap.size, 3, none⟩ = some (.int .i64 x.c) := HQ.out.1.2.2.2.1; have q4 : World.cell? w3 ⟨wr.heap.size, 4, none⟩ = some (.int .i64 x.d) := HQ.out.1.2.2.2.2; have qf0 := HQ.out.2 0 (by omega); have qf1 := HQ.out.2 1 (by omega); have qf2 := HQ.out.2 2 (by omega); have i0 := (HR.out.below HBr.out).img))
          generalize hw7 : World.setCell _ ⟨wr.heap.size, 2, none⟩ (.int .i64 ((n : Int) - 1 - x.b)) = w7
          have HQ7 := Lib.hid (HQ.out.set2 ((n : Int) - 1 - x.b))
          have HB7 := Lib.hid (HBr.out.setCell (p := ⟨wr.heap.size, 2, none⟩) (Nat.le_refl _) (.int .i64 ((n : Int) - 1 - x.b)))
          rw [hw7] at HQ7 HB7
          clear q0 q1 q2 q3 q4 qf0 qf1 qf2 i0
          clear HQ HBr hw7
          have HQ := HQ7
          have HBr := HB7
          clear HQ7 HB7
          have q0 : World.cell? w7 ⟨wr.heap.size, 0, none⟩ = some (.int .u8 23) := HQ.out.1.1
          have q1 : World.cell? w7 ⟨wr.heap.size, 1, none⟩ = some (.int .i64 x.a) := HQ.out.1.2.1
          have q2 : World.cell? w7 ⟨wr.heap.size, 2, none⟩ = some (.int .i64 ((n : Int) - 1 - x.b)) := HQ.out.1.2.2.1
          have q3 : World.cell? w7 ⟨wr.heap.size, 3, none⟩ = some (.int .i64 x.c) := HQ.out.1.2.2.2.1
          have q4 : World.cell? w7 ⟨wr.heap.size, 4, none⟩ = some (.int .i64 x.d) := HQ.out.1.2.2.2.2
          have qf0 := HQ.out.2 0 (by omega)
          have qf1 := HQ.out.2 1 (by omega)
          have qf2 := HQ.out.2 2 (by omega)
          have i0 := (HR.out.below HBr.out).img
          have i5 := (HR.out.below HBr.out).out.1
          have hb5 : w.heap.size + 1 + 1 + 1 ≤ w7.heap.size := by
            have h1 := World.block_lt_of_cell? _ _ HR.out.out.1
            have h3 := HBr.out.size
            simp only at h1
            omega
          have hlt5 : ((invL l).take k).length ≤ 65536 := by rw [List.length_take]; omega
          go_wp2_with (at_builtin; go_loud (refine wpList_appI rfl _ _ rfl (w.heap.size + 1 + 1 + 1) v ((invL l).take k) rfl ((HR.out.below HBr.out).row.alloc _) _ 1 1 [invI l x] rfl rfl (by rw [HY.out]; exact slice1 _ ⟨_, _, _, _, _⟩) hlt5 (by simp) (by simp; omega) ?_; intro aa cc w6 hown hgr; obtain ⟨⟨j0, j1⟩, hri⟩ := RI.grow ((HR.out.below HBr.out).below (below_new _ _)) hown hgr; have hlen : ((invL l).take k ++ [invI l x]).length = k + 1 := (by rw [← HTK.out, List.length_take, invL_len]; have := HRK.out; have := HN.out; omega); rw [hlen, ← HTK.out] at hri; rw [hlen]; have HRI := Lib.hid hri; clear hown hgr hri hlen))
          go_roundw
          case rel => exact ⟨k + 1, (r : Int) - 1, _, by have := HRK.out; omega, rfl, Lib.hid (by have := HRK.out; omega), by omega, by omega, HRI⟩
          case measure => simp [intOf]
        · rw [hk] at hI
          have HY := Lib.hid hI
          clear hI
          have HK := Lib.hid hk
          have HTG := Lib.hid (show rtg 24 x.a x.b = x.b from rfl)
          clear hk
          go_upto_region 8 with ((go_at_call 40; go_loud (refine (refInverse_any x.k _).mono ?_; rintro e w1 ⟨rfl, hb⟩; rw [HK.out]; replace HQ := Lib.hid (HQ.out.on hb); replace HBr := Lib.hid (below_on HBr.out hb); have q0 := HQ.out.1.1; have qf0 := HQ.out.2 0 (by omega); clear hb)))
          generalize hw2 : World.setCell _ ⟨wr.heap.size, 0, none⟩ (.int .u8 24) = w2
          have HQ2 := Lib.hid (HQ.out.set0 24)
          have HB2 := Lib.hid (HBr.out.setCell (p := ⟨wr.heap.size, 0, none⟩) (Nat.le_refl _) (.int .u8 24))
          rw [hw2] at HQ2 HB2
          clear q0 qf0 HQ HBr hw2
          have HQ := HQ2
          have HBr := HB2
          clear HQ2 HB2
          have q0 : World.cell? w2 ⟨wr.heap.size, 0, none⟩ = some (.int .u8 24) := HQ.out.1.1
          have q1 : World.cell? w2 ⟨wr.heap.size, 1, none⟩ = some (.int .i64 x.a) := HQ.out.1.2.1
          have q2 : World.cell? w2 ⟨wr.heap.size, 2, none⟩ = some (.int .i64 x.b) := HQ.out.1.2.2.1
          have q3 : World.cell? w2 ⟨wr.heap.size, 3, none⟩ = some (.int .i64 x.c) := HQ.out.1.2.2.2.1
          have q4 : World.cell? w2 ⟨wr.heap.size, 4, none⟩ = some (.int .i64 x.d) := HQ.out.1.2.2.2.2
          have qf0 := HQ.out.2 0 (by omega)
          have qf1 := HQ.out.2 1 (by omega)
          have qf2 := HQ.out.2 2 (by omega)
          have i0 := (HR.out.below HBr.out).img
          go_upto_region 14 with ((go_at_call 37; refine (rtarget_any 24 x.a x.b x.c x.d _).mono ?_; rintro e w3 ⟨rfl, hb⟩; rw [HTG.out]; replace HBr := Lib.hid (below_on HBr.out hb); replace HQ := Lib.hid (HQ.out.on hb); clear q0 q1 q2 q3 q4 qf0 qf1 qf2 i0; clear hb; have q0 : World.cell? w3 ⟨wr.heap.size, 0, none⟩ = some (.int .u8 24) := HQ.out.1.1; have q1 : World.cell? w3 ⟨wr.heap.size, 1, none⟩ = some (.int .i64 x.a) := HQ.out.1.2.1; have q2 : World.cell? w3 ⟨wr.heap.size, 2, none⟩ = some (.int .i64 x.b) := HQ.out.1.2.2.1; have q3 : World.cell? w3 ⟨wr.heap.size, 3, none⟩ = some (.int .i64 x.c) := HQ.out.1.2.2.2.1; have q4 : World.cell? w3 ⟨wr.heap.size, 4, none⟩ = some (.int .i64 x.d) := HQ.out.1.2.2.2.2; have qf0 := HQ.out.2 0 (by omega); have qf1 := HQ.out.2 1 (by omega); have qf2 := HQ.out.2 2 (by omega); have i0 := (HR.out.below HBr.out).img))
          generalize hw7 : World.setCell _ ⟨wr.heap.size, 2, none⟩ (.int .i64 ((n : Int) - 1 - x.b)) = w7
          have HQ7 := Lib.hid (HQ.out.set2 ((n : Int) - 1 - x.b))
          have HB7 := Lib.hid (HBr.out.setCell (p := ⟨wr.heap.size, 2, none⟩) (Nat.le_refl _) (.int .i64 ((n : Int) - 1 - x.b)))
          rw [hw7] at HQ7 HB7
          clear q0 q1 q2 q3 q4 qf0 qf1 qf2 i0
          clear HQ HBr hw7
          have HQ := HQ7
          have HBr := HB7
          clear HQ7 HB7
          have q0 : World.cell? w7 ⟨wr.heap.size, 0, none⟩ = some (.int .u8 24) := HQ.out.1.1
          have q1 : World.cell? w7 ⟨wr.heap.size, 1, none⟩ = some (.int .i64 x.a) := HQ.out.1.2.1
          have q2 : World.cell? w7 ⟨wr.heap.size, 2, none⟩ = some (.int .i64 ((n : Int) - 1 - x.b)) := HQ.out.1.2.2.1
          have q3 : World.cell? w7 ⟨wr.heap.size, 3, none⟩ = some (.int .i64 x.c) := HQ.out.1.2.2.2.1
          have q4 : World.cell? w7 ⟨wr.heap.size, 4, none⟩ = some (.int .i64 x.d) := HQ.out.1.2.2.2.2
          have qf0 := HQ.out.2 0 (by omega)
          have qf1 := HQ.out.2 1 (by omega)
          have qf2 := HQ.out.2 2 (by omega)
          have i0 := (HR.out.below HBr.out).img
          have i5 := (HR.out.below HBr.out).out.1
          have hb5 : w.heap.size + 1 + 1 + 1 ≤ w7.heap.size := by
            have h1 := World.block_lt_of_cell? _ _ HR.out.out.1
            have h3 := HBr.out.size
            simp only at h1
            omega
          have hlt5 : ((invL l).take k).length ≤ 65536 := by rw [List.length_take]; omega
          go_wp2_with (at_builtin; go_loud (refine wpList_appI rfl _ _ rfl (w.heap.size + 1 + 1 + 1) v ((invL l).take k) rfl ((HR.out.below HBr.out).row.alloc _) _ 1 1 [invI l x] rfl rfl (by rw [HY.out]; exact slice1 _ ⟨_, _, _, _, _⟩) hlt5 (by simp) (by simp; omega) ?_; intro aa cc w6 hown hgr; obtain ⟨⟨j0, j1⟩, hri⟩ := RI.grow ((HR.out.below HBr.out).below (below_new _ _)) hown hgr; have hlen : ((invL l).take k ++ [invI l x]).length = k + 1 := (by rw [← HTK.out, List.length_take, invL_len]; have := HRK.out; have := HN.out; omega); rw [hlen, ← HTK.out] at hri; rw [hlen]; have HRI := Lib.hid hri; clear hown hgr hri hlen))
          go_roundw
          case rel => exact ⟨k + 1, (r : Int) - 1, _, by have := HRK.out; omega, rfl, Lib.hid (by have := HRK.out; omega), by omega, by omega, HRI⟩
          case measure => simp [intOf]
        · rw [hk] at hI
          have HY := Lib.hid hI
          clear hI
          have HK := Lib.hid hk
          have HTG := Lib.hid (show rtg 26 x.a x.b = x.b from rfl)
          clear hk
          go_upto_region 8 with ((go_at_call 40; go_loud (refine (refInverse_any x.k _).mono ?_; rintro e w1 ⟨rfl, hb⟩; rw [HK.out]; replace HQ := Lib.hid (HQ.out.on hb); replace HBr := Lib.hid (below_on HBr.out hb); have q0 := HQ.out.1.1; have qf0 := HQ.out.2 0 (by omega); clear hb)))
          generalize hw2 : World.setCell _ ⟨wr.heap.size, 0, none⟩ (.int .u8 26) = w2
          have HQ2 := Lib.hid (HQ.out.set0 26)
          have HB2 := Lib.hid (HBr.out.setCell (p := ⟨wr.heap.size, 0, none⟩) (Nat.le_refl _) (.int .u8 26))
          rw [hw2] at HQ2 HB2
          clear q0 qf0 HQ HBr hw2
          have HQ := HQ2
          have HBr := HB2
          clear HQ2 HB2
          have q0 : World.cell? w2 ⟨wr.heap.size, 0, none⟩ = some (.int .u8 26) := HQ.out.1.1
          have q1 : World.cell? w2 ⟨wr.heap.size, 1, none⟩ = some (.int .i64 x.a) := HQ.out.1.2.1
          have q2 : World.cell? w2 ⟨wr.heap.size, 2, none⟩ = some (.int .i64 x.b) := HQ.out.1.2.2.1
          have q3 : World.cell? w2 ⟨wr.heap.size, 3, none⟩ = some (.int .i64 x.c) := HQ.out.1.2.2.2.1
          have q4 : World.cell? w2 ⟨wr.heap.size, 4, none⟩ = some (.int .i64 x.d) := HQ.out.1.2.2.2.2
          have qf0 := HQ.out.2 0 (by omega)
          have qf1 := HQ.out.2 1 (by omega)
          have qf2 := HQ.out.2 2 (by omega)
          have i0 := (HR.out.below HBr.out).img
          go_upto_region 14 with ((go_at_call 37; refine (rtarget_any 26 x.a x.b x.c x.d _).mono ?_; rintro e w3 ⟨rfl, hb⟩; rw [HTG.out]; replace HBr := Lib.hid (below_on HBr.out hb); replace HQ := Lib.hid (HQ.out.on hb); clear q0 q1 q2 q3 q4 qf0 qf1 qf2 i0; clear hb; have q0 : World.cell? w3 ⟨wr.heap.size, 0, none⟩ = some (.int .u8 26) := HQ.out.1.1; have q1 : World.cell? w3 ⟨wr.heap.size, 1, none⟩ = some (.int .i64 x.a) := HQ.out.1.2.1; have q2 : World.cell? w3 ⟨wr.heap.size, 2, none⟩ = some (.int .i64 x.b) := HQ.out.1.2.2.1; have q3 : World.cell? w3 ⟨wr.heap.size, 3, none⟩ = some (.int .i64 x.c) := HQ.out.1.2.2.2.1; have q4 : World.cell? w3 ⟨wr.heap.size, 4, none⟩ = some (.int .i64 x.d) := HQ.out.1.2.2.2.2; have qf0 := HQ.out.2 0 (by omega); have qf1 := HQ.out.2 1 (by omega); have qf2 := HQ.out.2 2 (by omega); have i0 := (HR.out.below HBr.out).img))
          generalize hw7 : World.setCell _ ⟨wr.heap.size, 2, none⟩ (.int .i64 ((n : Int) - 1 - x.b)) = w7
          have HQ7 := Lib.hid (HQ.out.set2 ((n : Int) - 1 - x.b))
          have HB7 := Lib.hid (HBr.out.setCell (p := ⟨wr.heap.size, 2, none⟩) (Nat.le_refl _) (.int .i64 ((n : Int) - 1 - x.b)))
          rw [hw7] at HQ7 HB7
          clear q0 q1 q2 q3 q4 qf0 qf1 qf2 i0
          clear HQ HBr hw7
          have HQ := HQ7
          have HBr := HB7
          clear HQ7 HB7
          have q0 : World.cell? w7 ⟨wr.heap.size, 0, none⟩ = some (.int .u8 26) := HQ.out.1.1
          have q1 : World.cell? w7 ⟨wr.heap.size, 1, none⟩ = some (.int .i64 x.a) := HQ.out.1.2.1
          have q2 : World.cell? w7 ⟨wr.heap.size, 2, none⟩ = some (.int .i64 ((n : Int) - 1 - x.b)) := HQ.out.1.2.2.1
          have q3 : World.cell? w7 ⟨wr.heap.size, 3, none⟩ = some (.int .i64 x.c) := HQ.out.1.2.2.2.1
          have q4 : World.cell? w7 ⟨wr.heap.size, 4, none⟩ = some (.int .i64 x.d) := HQ.out.1.2.2.2.2
          have qf0 := HQ.out.2 0 (by omega)
          have qf1 := HQ.out.2 1 (by omega)
          have qf2 := HQ.out.2 2 (by omega)
          have i0 := (HR.out.below HBr.out).img
          have i5 := (HR.out.below HBr.out).out.1
          have hb5 : w.heap.size + 1 + 1 + 1 ≤ w7.heap.size := by
            have h1 := World.block_lt_of_cell? _ _ HR.out.out.1
            have h3 := HBr.out.size
            simp only at h1
            omega
          have hlt5 : ((invL l).take k).length ≤ 65536 := by rw [List.length_take]; omega
          go_wp2_with (at_builtin; go_loud (refine wpList_appI rfl _ _ rfl (w.heap.size + 1 + 1 + 1) v ((invL l).take k) rfl ((HR.out.below HBr.out).row.alloc _) _ 1 1 [invI l x] rfl rfl (by rw [HY.out]; exact slice1 _ ⟨_, _, _, _, _⟩) hlt5 (by simp) (by simp; omega) ?_; intro aa cc w6 hown hgr; obtain ⟨⟨j0, j1⟩, hri⟩ := RI.grow ((HR.out.below HBr.out).below (below_new _ _)) hown hgr; have hlen : ((invL l).take k ++ [invI l x]).length = k + 1 := (by rw [← HTK.out, List.length_take, invL_len]; have := HRK.out; have := HN.out; omega); rw [hlen, ← HTK.out] at hri; rw [hlen]; have HRI := Lib.hid hri; clear hown hgr hri hlen))
          go_roundw
          case rel => exact ⟨k + 1, (r : Int) - 1, _, by have := HRK.out; omega, rfl, Lib.hid (by have := HRK.out; omega), by omega, by omega, HRI⟩
          case measure => simp [intOf]
        · rw [hk] at hI
          have HY := Lib.hid hI
          clear hI
          have HK := Lib.hid hk
          have HTG := Lib.hid (show rtg 27 x.a x.b = x.b from rfl)
          clear hk
          go_upto_region 8 with ((go_at_call 40; go_loud (refine (refInverse_any x.k _).mono ?_; rintro e w1 ⟨rfl, hb⟩; rw [HK.out]; replace HQ := Lib.hid (HQ.out.on hb); replace HBr := Lib.hid (below_on HBr.out hb); have q0 := HQ.out.1.1; have qf0 := HQ.out.2 0 (by omega); clear hb)))
          generalize hw2 : World.setCell _ ⟨wr.heap.size, 0, none⟩ (.int .u8 27) = w2
          have HQ2 := Lib.hid (HQ.out.set0 27)
          have HB2 := Lib.hid (HBr.out.setCell (p := ⟨wr.heap.size, 0, none⟩) (Nat.le_refl _) (.int .u8 27))
          rw [hw2] at HQ2 HB2
          clear q0 qf0 HQ HBr hw2
          have HQ := HQ2
          have HBr := HB2
          clear HQ2 HB2
          have q0 : World.cell? w2 ⟨wr.heap.size, 0, none⟩ = some (.int .u8 27) := HQ.out.1.1
          have q1 : World.cell? w2 ⟨wr.heap.size, 1, none⟩ = some (.int .i64 x.a) := HQ.out.1.2.1
          have q2 : World.cell? w2 ⟨wr.heap.size, 2, none⟩ = some (.int .i64 x.b) := HQ.out.1.2.2.1
          have q3 : World.cell? w2 ⟨wr.heap.size, 3, none⟩ = some (.int .i64 x.c) := HQ.out.1.2.2.2.1
          have q4 : World.cell? w2 ⟨wr.heap.size, 4, none⟩ = some (.int .i64 x.d) := HQ.out.1.2.2.2.2
          have qf0 := HQ.out.2 0 (by omega)
          have qf1 := HQ.out.2 1 (by omega)
          have qf2 := HQ.out.2 2 (by omega)
          have i0 := (HR.out.below HBr.out).img
          go_upto_region 14 with ((go_at_call 37; refine (rtarget_any 27 x.a x.b x.c x.d _).mono ?_; rintro e w3 ⟨rfl, hb⟩; rw [HTG.out]; replace HBr := Lib.hid (below_on HBr.out hb); replace HQ := Lib.hid (HQ.out.on hb); clear q0 q1 q2 q3 q4 qf0 qf1 qf2 i0; clear hb; have q0 : World.cell? w3 ⟨wr.heap.size, 0, none⟩ = some (.int .u8 27) := HQ.out.1.1; have q1 : World.cell? w3 ⟨wr.heap.size, 1, none⟩ = some (.int .i64 x.a) := HQ.out.1.2.1; have q2 : World.cell? w3 ⟨wr.heap.size, 2, none⟩ = some (.int .i64 x.b) := HQ.out.1.2.2.1; have q3 : World.cell? w3 ⟨wr.heap.size, 3, none⟩ = some (.int .i64 x.c) := HQ.out.1.2.2.2.1; have q4 : World.cell? w3 ⟨wr.heap.size, 4, none⟩ = some (.int .i64 x.d) := HQ.out.1.2.2.2.2; have qf0 := HQ.out.2 0 (by omega); have qf1 := HQ.out.2 1 (by omega); have qf2 := HQ.out.2 2 (by omega); have i0 := (HR.out.below HBr.out).img))
          generalize hw7 : World.setCell _ ⟨wr.heap.size, 2, none⟩ (.int .i64 ((n : Int) - 1 - x.b)) = w7
          have HQ7 := Lib.hid (HQ.out.set2 ((n : Int) - 1 - x.b))
          have HB7 := Lib.hid (HBr.out.setCell (p := ⟨wr.heap.size, 2, none⟩) (Nat.le_refl _) (.int .i64 ((n : Int) - 1 - x.b)))
          rw [hw7] at HQ7 HB7
          clear q0 q1 q2 q3 q4 qf0 qf1 qf2 i0
          clear HQ HBr hw7
          have HQ := HQ7
          have HBr := HB7
          clear HQ7 HB7
          have q0 : World.cell? w7 ⟨wr.heap.size, 0, none⟩ = some (.int .u8 27) := HQ.out.1.1
          have q1 : World.cell? w7 ⟨wr.heap.size, 1, none⟩ = some (.int .i64 x.a) := HQ.out.1.2.1
          have q2 : World.cell? w7 ⟨wr.heap.size, 2, none⟩ = some (.int .i64 ((n : Int) - 1 - x.b)) := HQ.out.1.2.2.1
          have q3 : World.cell? w7 ⟨wr.heap.size, 3, none⟩ = some (.int .i64 x.c) := HQ.out.1.2.2.2.1
          have q4 : World.cell? w7 ⟨wr.heap.size, 4, none⟩ = some (.int .i64 x.d) := HQ.out.1.2.2.2.2
          have qf0 := HQ.out.2 0 (by omega)
          have qf1 := HQ.out.2 1 (by omega)
          have qf2 := HQ.out.2 2 (by omega)
          have i0 := (HR.out.below HBr.out).img
          have i5 := (HR.out.below HBr.out).out.1
          have hb5 : w.heap.size + 1 + 1 + 1 ≤ w7.heap.size := by
            have h1 := World.block_lt_of_cell? _ _ HR.out.out.1
            have h3 := HBr.out.size
            simp only at h1
            omega
          have hlt5 : ((invL l).take k).length ≤ 65536 := by rw [List.length_take]; omega
          go_wp2_with (at_builtin; go_loud (refine wpList_appI rfl _ _ rfl (w.heap.size + 1 + 1 + 1) v ((invL l).take k) rfl ((HR.out.below HBr.out).row.alloc _) _ 1 1 [invI l x] rfl rfl (by rw [HY.out]; exact slice1 _ ⟨_, _, _, _, _⟩) hlt5 (by simp) (by simp; omega) ?_; intro aa cc w6 hown hgr; obtain ⟨⟨j0, j1⟩, hri⟩ := RI.grow ((HR.out.below HBr.out).below (below_new _ _)) hown hgr; have hlen : ((invL l).take k ++ [invI l x]).length = k + 1 := (by rw [← HTK.out, List.length_take, invL_len]; have := HRK.out; have := HN.out; omega); rw [hlen, ← HTK.out] at hri; rw [hlen]; have HRI := Lib.hid hri; clear hown hgr hri hlen))
          go_roundw
          case rel => exact ⟨k + 1, (r : Int) - 1, _, by have := HRK.out; omega, rfl, Lib.hid (by have := HRK.out; omega), by omega, by omega, HRI⟩
          case measure => simp [intOf]
      · obtain ⟨K, hK⟩ : ∃ K, invO x.k = K := ⟨_, rfl⟩
        rw [hK] at m30 m31 htg
        have hb0 : tb x.k = false := by unfold tb; simp [ht]
        have HY := Lib.hid (show invI l x = ⟨K, x.a, x.b, x.c, x.d⟩ by unfold invI; rw [rta_no hb0, rtb_no hb0, hK])
        have HK := Lib.hid hK
        have HTG := Lib.hid (show rtg K x.a x.b = -1 by unfold rtg; rw [if_neg (by omega), if_neg (by omega)])
        have b30 : (K == 30) = false := by rw [beq_eq_false_iff_ne]; exact m30
        have b31 : (K == 31) = false := by rw [beq_eq_false_iff_ne]; exact m31
        clear hx ht n30 n31 m30 m31 htg hb0 hK hvx
        go_upto_region 8 with ((go_at_call 40; go_loud (refine (refInverse_any x.k _).mono ?_; rintro e w1 ⟨rfl, hb⟩; rw [HK.out]; replace HQ := Lib.hid (HQ.out.on hb); replace HBr := Lib.hid (below_on HBr.out hb); have q0 := HQ.out.1.1; have qf0 := HQ.out.2 0 (by omega); clear hb)))
        generalize hw2 : World.setCell _ ⟨wr.heap.size, 0, none⟩ (.int .u8 K) = w2
        have HQ2 := Lib.hid (HQ.out.set0 K)
        have HB2 := Lib.hid (HBr.out.setCell (p := ⟨wr.heap.size, 0, none⟩) (Nat.le_refl _) (.int .u8 K))
        rw [hw2] at HQ2 HB2
        clear q0 qf0 HQ HBr hw2
        have HQ := HQ2
        have HBr := HB2
        clear HQ2 HB2
        have q0 : World.cell? w2 ⟨wr.heap.size, 0, none⟩ = some (.int .u8 K) := HQ.out.1.1
        have q1 : World.cell? w2 ⟨wr.heap.size, 1, none⟩ = some (.int .i64 x.a) := HQ.out.1.2.1
        have q2 : World.cell? w2 ⟨wr.heap.size, 2, none⟩ = some (.int .i64 x.b) := HQ.out.1.2.2.1
        have q3 : World.cell? w2 ⟨wr.heap.size, 3, none⟩ = some (.int .i64 x.c) := HQ.out.1.2.2.2.1
        have q4 : World.cell? w2 ⟨wr.heap.size, 4, none⟩ = some (.int .i64 x.d) := HQ.out.1.2.2.2.2
        have qf0 := HQ.out.2 0 (by omega)
        have qf1 := HQ.out.2 1 (by omega)
        have qf2 := HQ.out.2 2 (by omega)
        have i0 := (HR.out.below HBr.out).img
        go_upto_region 14 with ((go_at_call 37; refine (rtarget_any K x.a x.b x.c x.d _).mono ?_; rintro e w3 ⟨rfl, hb⟩; rw [HTG.out]; replace HBr := Lib.hid (below_on HBr.out hb); replace HQ := Lib.hid (HQ.out.on hb); clear q0 q1 q2 q3 q4 qf0 qf1 qf2 i0; clear hb; have q0 : World.cell? w3 ⟨wr.heap.size, 0, none⟩ = some (.int .u8 K) := HQ.out.1.1; have q1 : World.cell? w3 ⟨wr.heap.size, 1, none⟩ = some (.int .i64 x.a) := HQ.out.1.2.1; have q2 : World.cell? w3 ⟨wr.heap.size, 2, none⟩ = some (.int .i64 x.b) := HQ.out.1.2.2.1; have q3 : World.cell? w3 ⟨wr.heap.size, 3, none⟩ = some (.int .i64 x.c) := HQ.out.1.2.2.2.1; have q4 : World.cell? w3 ⟨wr.heap.size, 4, none⟩ = some (.int .i64 x.d) := HQ.out.1.2.2.2.2; have qf0 := HQ.out.2 0 (by omega); have qf1 := HQ.out.2 1 (by omega); have qf2 := HQ.out.2 2 (by omega); have i0 := (HR.out.below HBr.out).img))
        rename_i w3
        have i5 := (HR.out.below HBr.out).out.1
        have hb5 : w.heap.size + 1 + 1 + 1 ≤ w3.heap.size := by
          have h1 := World.block_lt_of_cell? _ _ HR.out.out.1
          have h3 := HBr.out.size
          simp only at h1
          omega
        have hlt5 : ((invL l).take k).length ≤ 65536 := by rw [List.length_take]; omega
        go_wp2_with (at_builtin; go_loud (refine wpList_appI rfl _ _ rfl (w.heap.size + 1 + 1 + 1) v ((invL l).take k) rfl ((HR.out.below HBr.out).row.alloc _) _ 1 1 [invI l x] rfl rfl (by rw [HY.out]; exact slice1 _ ⟨_, _, _, _, _⟩) hlt5 (by simp) (by simp; omega) ?_; intro aa cc w6 hown hgr; obtain ⟨⟨j0, j1⟩, hri⟩ := RI.grow ((HR.out.below HBr.out).below (below_new _ _)) hown hgr; have hlen : ((invL l).take k ++ [invI l x]).length = k + 1 := (by rw [← HTK.out, List.length_take, invL_len]; have := HRK.out; have := HN.out; omega); rw [hlen, ← HTK.out] at hri; rw [hlen]; have HRI := Lib.hid hri; clear hown hgr hri hlen))
        go_roundw
        case rel => exact ⟨k + 1, (r : Int) - 1, _, by have := HRK.out; omega, rfl, Lib.hid (by have := HRK.out; omega), by omega, by omega, HRI⟩
        case measure => simp [intOf]
    · obtain rfl : z = -1 := by omega
      have hkn : k = n := by have := HZ.out; omega
      obtain ⟨s0, s1, s2⟩ := HR.out.res
      obtain ⟨g0, g1, g2⟩ := HR.out.resf
      obtain ⟨o0, o1, o2⟩ := HR.out.out
      obtain ⟨aa, cc, hv, hsl, hgg⟩ := HR.out.row.read
      rw [hkn, List.take_of_length_le (by rw [invL_len, HN.out]; exact Nat.le_refl _), invL_len, HN.out] at hv
      rw [hkn, List.take_of_length_le (by rw [invL_len, HN.out]; exact Nat.le_refl _)] at hsl
      subst hv
      have HSL := Lib.hid (And.intro hsl hgg)
      clear hsl hgg hkn
      go_wp2
      obtain ⟨y0, y1, y2⟩ := set3 wr (w.heap.size + 1) (.slice aa n cc) (.int .i64 m) (.int .i64 s) _ _ _ s0 s1 s2
      refine bodyPost_ret (v := .agg #[.slice aa n cc, .int .i64 m, .int .i64 s]) (by simp [results, Tryd.results23, go_sem, y0, y1, y2]) rfl ⟨aa, cc, rfl, ?_, ?_⟩
      · intro hne
        obtain ⟨b, o, rfl, h1, h2⟩ := HSL.out.1 hne
        have hb := (HSL.out.2 b o rfl).1
        have hq : b ≠ w.heap.size + 1 := by omega
        refine ⟨b, o, rfl, by simpa using h1, fun i y hi => ?_⟩
        obtain ⟨c0, c1, c2, c3, c4⟩ := h2 i y hi
        exact ⟨set_past hq (set_past hq (set_past hq c0)), set_past hq (set_past hq (set_past hq c1)), set_past hq (set_past hq (set_past hq c2)), set_past hq (set_past hq (set_past hq c3)), set_past hq (set_past hq (set_past hq c4))⟩
      · have hq : w.heap.size ≤ w.heap.size + 1 := by omega
        exact ((HR.out.bel.setCell (p := ⟨w.heap.size + 1, 0, none⟩) hq _).setCell (p := ⟨w.heap.size + 1, 1, none⟩) hq _).setCell (p := ⟨w.heap.size + 1, 2, none⟩) hq _
end Go.Proofs.YtalkhkhnpplofaaDoor
