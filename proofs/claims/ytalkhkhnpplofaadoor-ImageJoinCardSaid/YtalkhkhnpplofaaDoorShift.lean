/- Contracts: shifted. -/
import Derived.Test.YtalkhkhnpplofaaDoorRows
import Derived.WalkKit
import Derived.ProofKit
import Derived.OpenShut
import Derived.Below
import Derived.Lib.Hide
import Derived.Outline
import Derived.WalkLawsBesides
import Derived.WalkSpells
import Derived.WalkSmall
import Derived.IntWalk
import Derived.Deep.QuietTactic
import Derived.BigQuiet
import Derived.Deep.RegionHeld3
import Derived.StillTailTactics
import Derived.Handy
import Derived.Deep.Cut
import Derived.Deep.OwnRows
import Derived.Deep.RegionWith
import Derived.Test.YtalkhkhnpplofaaDoorRInv0
import Derived.Test.YtalkhkhnpplofaaDoorJn
namespace Go.Proofs.YtalkhkhnpplofaaDoor
open Go.ChangeShapes Go.WideShapes Go.ChangeAt Go.RowKit
set_option linter.unusedSimpArgs false
set_option linter.unusedVariables false

/-- a slice of instructions of the program's own is returned -/
def RetOwn (w : World) (n : Nat) (L : List Ins) (e : Ending) (w' : World) : Prop := ∃ aa cc, e = .returned (.slice aa n cc) ∧ OwnI w' w.heap.size (.slice aa n cc) L ∧ Below w.heap.size w w'
set_option maxRecDepth 100000 in
set_option maxHeartbeats 2000000 in
theorem shifted_any (a : Option Addr) (n cap : Nat) (t : Int) (l : List Ins) (w : World) (h : SliceC w a l) (hn : l.length = n) (hw : WF l) (hL : Laid w) (hn2 : n ≤ 300) (hd : Wd l) (ht0 : 0 ≤ t) (ht1 : t ≤ 300) :
    Calls Tryd.prog 27 #[.slice a n cap, .int .i64 t] w (RetOwn w n (sh l t)) := by
  have HS := Lib.hid h
  have HN := Lib.hid hn
  have HL := Lib.hid hL
  have HD := Lib.hid hd
  clear h hn hL hd
  go_enter Tryd.func27, Tryd.ntmps27
  go_wp2
  go_loopw [5, 12] (fun v x12 wr => ∃ k : Nat, k ≤ n ∧ x12 = .int .i64 k ∧ Hid (OwnI wr w.heap.size v ((sh l t).take k)) ∧ Hid (Below w.heap.size w wr)) (fun _ x12 _ => n - (intOf x12).toNat)
  case atStart => exact ⟨0, by omega, rfl, Lib.hid (World.ownsRow_nil _ _ _ _), Lib.hid (Below.refl _ _)⟩
  case round =>

    obtain ⟨k, hk, rfl, HO, HB⟩ := hrel
    by_cases hkn : k < n
    · have hdl : (k : Int) < (n : Int) := by omega
      obtain ⟨x, hx⟩ : ∃ x, l[k]? = some x := ⟨_, List.getElem?_eq_getElem (by have := HN.out; omega)⟩
      have hkk := hw.at hx
      have HTK := Lib.hid (show (sh l t).take (k + 1) = (sh l t).take k ++ [shI t x] by rw [List.take_add_one, sh_at, hx]; rfl)
      obtain ⟨b, o, rfl, hbl, d0, d1, d2, d3, d4⟩ := (HS.out.below HB.out).at hx
      have HQ := Lib.hid (B5.new wr x)
      have HBr := Lib.hid (below_new wr (.cells #[.int .u8 x.k, .int .i64 x.a, .int .i64 x.b, .int .i64 x.c, .int .i64 x.d] 39))
      have q0 : _ = some (Value.int .u8 x.k) := HQ.out.1.1; have q1 : _ = some (Value.int .i64 x.a) := HQ.out.1.2.1; have q2 : _ = some (Value.int .i64 x.b) := HQ.out.1.2.2.1; have q3 : _ = some (Value.int .i64 x.c) := HQ.out.1.2.2.2.1; have q4 : _ = some (Value.int .i64 x.d) := HQ.out.1.2.2.2.2; have qf0 := HQ.out.2 0 (by omega); have qf1 := HQ.out.2 1 (by omega); have qf2 := HQ.out.2 2 (by omega); have qf3 := HQ.out.2 3 (by omega); have qf4 := HQ.out.2 4 (by omega)
      cases hT : tb x.k
      · have HT := Lib.hid hT
        have HY := Lib.hid (show shI t x = ⟨x.k, x.a, x.b, x.c, x.d⟩ by unfold shI; rw [rta_no hT, rtb_no hT])
        clear hx hT
        go_upto_region 8 with ((go_at_call 25; refine (target_any x.k x.a x.b x.c x.d _ hkk (HL.out.below (below_on HB.out HBr.out))).mono ?_; rintro e w3 ⟨rfl, hb⟩; rw [HT.out]; replace HBr := Lib.hid (below_on HBr.out hb); replace HQ := Lib.hid (HQ.out.on hb); clear q0 q1 q2 q3 q4 qf0 qf1 qf2 qf3 qf4; clear hb; have q0 : _ = some (Value.int .u8 x.k) := HQ.out.1.1; have q1 : _ = some (Value.int .i64 x.a) := HQ.out.1.2.1; have q2 : _ = some (Value.int .i64 x.b) := HQ.out.1.2.2.1; have q3 : _ = some (Value.int .i64 x.c) := HQ.out.1.2.2.2.1; have q4 : _ = some (Value.int .i64 x.d) := HQ.out.1.2.2.2.2; have qf0 := HQ.out.2 0 (by omega); have qf1 := HQ.out.2 1 (by omega); have qf2 := HQ.out.2 2 (by omega); have qf3 := HQ.out.2 3 (by omega); have qf4 := HQ.out.2 4 (by omega)))
        have hbw : w.heap.size ≤ w3.heap.size := (below_on HB.out HBr.out).size
        have hltk : ((sh l t).take k).length ≤ 65536 := by rw [List.length_take]; omega
        go_wp2_with (at_builtin; go_loud (refine wpList_appI rfl _ _ rfl w.heap.size _ ((sh l t).take k) rfl (OwnI.alloc (own_keep HO.out (fun j hj => HBr.out.block j (World.ownsRow.lt HO.out j hj).2)) _) _ 1 1 [shI t x] rfl rfl (by rw [HY.out]; exact slice1 _ ⟨_, _, _, _, _⟩) hltk (by simp) (by simp; omega) ?_; intro aa cc w6 hown hgr; have hlen : ((sh l t).take k ++ [shI t x]).length = k + 1 := (by rw [← HTK.out, List.length_take, sh_len]; have := HN.out; omega); rw [hlen, ← HTK.out] at hown; rw [hlen]; have HO6 := Lib.hid hown; have HB6 := Lib.hid (Below.grown ((below_on HB.out HBr.out).alloc hbw _) hgr (by simp; omega) (fun j hj => (World.ownsRow.lt HO.out j hj).1)); clear hown hgr hlen))
        go_roundw
        case rel => exact ⟨k + 1, by omega, by go_num, HO6, HB6⟩
        case measure => simp [intOf]; omega
      · have HT := Lib.hid hT
        have htg := HD.out.tgt_in hx hT
        obtain ⟨u, hu⟩ : ∃ u, tv x.k x.a x.b = u := ⟨_, rfl⟩
        rw [hu] at htg
        obtain ⟨u1, u2⟩ := htg
        have u3 : u < n := by have := HN.out; omega
        have HU := Lib.hid hu
        have HY := Lib.hid (show shI t x = ⟨x.k, rta x.k x.a (u + t), rtb x.k x.b (u + t), x.c, x.d⟩ by unfold shI; rw [hu])
        clear hx hT hu u2
        go_upto_region 8 with (first | (go_at_call 25; refine (target_any x.k x.a x.b x.c x.d _ hkk (HL.out.below (below_on HB.out HBr.out))).mono ?_; rintro e w3 ⟨rfl, hb⟩; rw [HT.out, HU.out]; replace HBr := Lib.hid (below_on HBr.out hb); replace HQ := Lib.hid (HQ.out.on hb); clear q0 q1 q2 q3 q4 qf0 qf1 qf2 qf3 qf4; clear hb; have q0 : _ = some (Value.int .u8 x.k) := HQ.out.1.1; have q1 : _ = some (Value.int .i64 x.a) := HQ.out.1.2.1; have q2 : _ = some (Value.int .i64 x.b) := HQ.out.1.2.2.1; have q3 : _ = some (Value.int .i64 x.c) := HQ.out.1.2.2.2.1; have q4 : _ = some (Value.int .i64 x.d) := HQ.out.1.2.2.2.2; have qf0 := HQ.out.2 0 (by omega); have qf1 := HQ.out.2 1 (by omega); have qf2 := HQ.out.2 2 (by omega); have qf3 := HQ.out.2 3 (by omega); have qf4 := HQ.out.2 4 (by omega)) | (go_at_call 26; refine (retarget_any x.k x.a x.b x.c x.d _ _ hkk (HL.out.below (below_on HB.out HBr.out))).mono ?_; rintro e w4 ⟨rfl, hb⟩; replace HBr := Lib.hid (below_on HBr.out hb); replace HQ := Lib.hid (HQ.out.on hb); clear q0 q1 q2 q3 q4 qf0 qf1 qf2 qf3 qf4; clear hb; have q0 : _ = some (Value.int .u8 x.k) := HQ.out.1.1; have q1 : _ = some (Value.int .i64 x.a) := HQ.out.1.2.1; have q2 : _ = some (Value.int .i64 x.b) := HQ.out.1.2.2.1; have q3 : _ = some (Value.int .i64 x.c) := HQ.out.1.2.2.2.1; have q4 : _ = some (Value.int .i64 x.d) := HQ.out.1.2.2.2.2; have qf0 := HQ.out.2 0 (by omega); have qf1 := HQ.out.2 1 (by omega); have qf2 := HQ.out.2 2 (by omega); have qf3 := HQ.out.2 3 (by omega); have qf4 := HQ.out.2 4 (by omega)))
        have R := set5 w4 wr.heap.size (.int .u8 x.k) (.int .i64 (rta x.k x.a (u + t))) (.int .i64 (rtb x.k x.b (u + t))) (.int .i64 x.c) (.int .i64 x.d) _ _ _ _ _ q0 q1 q2 q3 q4
        have HB7 := Lib.hid (set5b wr w4 wr.heap.size HBr.out (Nat.le_refl _) (.int .u8 x.k) (.int .i64 (rta x.k x.a (u + t))) (.int .i64 (rtb x.k x.b (u + t))) (.int .i64 x.c) (.int .i64 x.d))
        clear q0 q1 q2 q3 q4 qf0 qf1 qf2 qf3 qf4
        have q0 := R 0 _ rfl
        have q1 := R 1 _ rfl
        have q2 := R 2 _ rfl
        have q3 := R 3 _ rfl
        have q4 := R 4 _ rfl
        clear R HBr HQ
        have HBr := HB7
        clear HB7
        generalize (((((w4.setCell ⟨wr.heap.size, 0, none⟩ (.int .u8 x.k)).setCell ⟨wr.heap.size, 1, none⟩ (.int .i64 (rta x.k x.a (u + t)))).setCell ⟨wr.heap.size, 2, none⟩ (.int .i64 (rtb x.k x.b (u + t)))).setCell ⟨wr.heap.size, 3, none⟩ (.int .i64 x.c)).setCell ⟨wr.heap.size, 4, none⟩ (.int .i64 x.d)) = w7 at *
        have hbw : w.heap.size ≤ w7.heap.size := (below_on HB.out HBr.out).size
        have hltk : ((sh l t).take k).length ≤ 65536 := by rw [List.length_take]; omega
        go_wp2_with (at_builtin; go_loud (refine wpList_appI rfl _ _ rfl w.heap.size _ ((sh l t).take k) rfl (OwnI.alloc (own_keep HO.out (fun j hj => HBr.out.block j (World.ownsRow.lt HO.out j hj).2)) _) _ 1 1 [shI t x] rfl rfl (by rw [HY.out]; exact slice1 _ ⟨_, _, _, _, _⟩) hltk (by simp) (by simp; omega) ?_; intro aa cc w6 hown hgr; have hlen : ((sh l t).take k ++ [shI t x]).length = k + 1 := (by rw [← HTK.out, List.length_take, sh_len]; have := HN.out; omega); rw [hlen, ← HTK.out] at hown; rw [hlen]; have HO6 := Lib.hid hown; have HB6 := Lib.hid (Below.grown ((below_on HB.out HBr.out).alloc hbw _) hgr (by simp; omega) (fun j hj => (World.ownsRow.lt HO.out j hj).1)); clear hown hgr hlen))
        go_roundw
        case rel => exact ⟨k + 1, by omega, by go_num, HO6, HB6⟩
        case measure => simp [intOf]; omega
    · obtain rfl : k = n := by omega
      obtain ⟨aa, cc, hv, _⟩ := HO.out.read
      have ho := HO.out
      rw [List.take_of_length_le (by rw [sh_len, HN.out]; exact Nat.le_refl _)] at hv ho
      rw [sh_len, HN.out] at hv
      subst hv
      have HO2 := Lib.hid ho
      clear ho
      go_wp2
      go_ret
      exact ⟨aa, cc, rfl, HO2.out, HB.out⟩
end Go.Proofs.YtalkhkhnpplofaaDoor
