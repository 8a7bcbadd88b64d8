/- Contract: the link of an instruction. -/
import Derived.Test.YtfhojpnofmlkdaaDoorRows
import Derived.WalkKit
import Derived.ProofKit
import Derived.OpenShut
import Derived.Below
import Derived.Lib.Hide
import Derived.Outline
import Derived.WalkLawsBesides
import Derived.WalkSpells
import Derived.WalkSmall
import Derived.IntWalk
import Derived.Deep.QuietTactic
import Derived.BigQuiet
import Derived.Deep.RegionHeld3
import Derived.StillTailTactics
import Derived.Handy
import Derived.Deep.Cut
import Derived.Deep.OwnRows
import Derived.Deep.RegionWith
import Derived.Test.YtfhojpnofmlkdaaDoorImg
namespace Go.Proofs.YtfhojpnofmlkdaaDoor
open Go.ChangeShapes Go.WideShapes Go.ChangeAt Go.RowKit
set_option linter.unusedSimpArgs false
set_option linter.unusedVariables false
set_option maxRecDepth 100000
set_option maxRecDepth 100000
theorem rol_cases (k : Int) : rol k = 0 ∨ rol k = 1 ∨ rol k = 2 ∨ rol k = 3 ∨ rol k = 4 := by
  unfold rol
  split
  · exact .inr (.inl rfl)
  · split
    · exact .inr (.inr (.inl rfl))
    · split
      · exact .inr (.inr (.inr (.inl rfl)))
      · split
        · exact .inr (.inr (.inr (.inr rfl)))
        · exact .inl rfl
theorem box3 {w w1 : World} {u0 u1 u2 v0 v1 v2 : Value} {T T' : TypeId} (hb : Below ((w.alloc (.cells #[u0, u1, u2] T)).alloc (.cells #[v0, v1, v2] T')).heap.size ((w.alloc (.cells #[u0, u1, u2] T)).alloc (.cells #[v0, v1, v2] T')) w1) :
    (w1.cell? ⟨w.heap.size, 0, none⟩ = some u0 ∧ w1.cell? ⟨w.heap.size, 1, none⟩ = some u1 ∧ w1.cell? ⟨w.heap.size, 2, none⟩ = some u2 ∧ w1.frozen? ⟨w.heap.size, 0, none⟩ = false ∧ w1.frozen? ⟨w.heap.size, 1, none⟩ = false ∧ w1.frozen? ⟨w.heap.size, 2, none⟩ = false) ∧
    (w1.cell? ⟨w.heap.size + 1, 0, none⟩ = some v0 ∧ w1.cell? ⟨w.heap.size + 1, 1, none⟩ = some v1 ∧ w1.cell? ⟨w.heap.size + 1, 2, none⟩ = some v2 ∧ w1.frozen? ⟨w.heap.size + 1, 0, none⟩ = false ∧ w1.frozen? ⟨w.heap.size + 1, 1, none⟩ = false ∧ w1.frozen? ⟨w.heap.size + 1, 2, none⟩ = false) :=
  ⟨⟨(box2_a hb 0 _ rfl).1, (box2_a hb 1 _ rfl).1, (box2_a hb 2 _ rfl).1, (box2_a hb 0 _ rfl).2, (box2_a hb 1 _ rfl).2, (box2_a hb 2 _ rfl).2⟩, (box2_b hb 0 _ rfl).1, (box2_b hb 1 _ rfl).1, (box2_b hb 2 _ rfl).1, (box2_b hb 0 _ rfl).2, (box2_b hb 1 _ rfl).2, (box2_b hb 2 _ rfl).2⟩
/-- what was behind an address stays -/
theorem frozen_on {w w' : World} {b o : Nat} {v : Value} {y : Bool} (hb : Below w.heap.size w w') (h : w.cell? ⟨b, o, none⟩ = some v) (hf : w.frozen? ⟨b, o, none⟩ = y) : w'.frozen? ⟨b, o, none⟩ = y :=
  (hb.frozen (p := ⟨b, o, none⟩) (World.block_lt_of_cell? w _ h)).trans hf
theorem set3 (w : World) (B : Nat) (v0 v1 v2 u0 u1 u2 : Value) (h0 : w.cell? ⟨B, 0, none⟩ = some u0) (h1 : w.cell? ⟨B, 1, none⟩ = some u1) (h2 : w.cell? ⟨B, 2, none⟩ = some u2) :
    (((w.setCell ⟨B, 0, none⟩ v0).setCell ⟨B, 1, none⟩ v1).setCell ⟨B, 2, none⟩ v2).cell? ⟨B, 0, none⟩ = some v0 ∧ (((w.setCell ⟨B, 0, none⟩ v0).setCell ⟨B, 1, none⟩ v1).setCell ⟨B, 2, none⟩ v2).cell? ⟨B, 1, none⟩ = some v1 ∧ (((w.setCell ⟨B, 0, none⟩ v0).setCell ⟨B, 1, none⟩ v1).setCell ⟨B, 2, none⟩ v2).cell? ⟨B, 2, none⟩ = some v2 := by
  have n : ∀ (w : World) (i j : Nat) (v u : Value), i ≠ j → w.cell? ⟨B, i, none⟩ = some u → (w.setCell ⟨B, j, none⟩ v).cell? ⟨B, i, none⟩ = some u := fun w i j v u hij h => (World.cell?_setCell_other _ _ _ _ (by simp [hij])).trans h
  have s : ∀ (w : World) (i : Nat) (v u : Value), w.cell? ⟨B, i, none⟩ = some u → (w.setCell ⟨B, i, none⟩ v).cell? ⟨B, i, none⟩ = some v := fun w i v u h => World.cell?_setCell_same _ _ _ h
  exact ⟨n _ 0 2 _ _ (by omega) (n _ 0 1 _ _ (by omega) (s _ 0 _ _ h0)), n _ 1 2 _ _ (by omega) (s _ 1 _ _ (n _ 1 0 _ _ (by omega) h1)), s _ 2 _ _ (n _ 2 1 _ _ (by omega) (n _ 2 0 _ _ (by omega) h2))⟩
theorem set_past {w : World} {b b' o o' : Nat} {v u : Value} (hb : b ≠ b') (h : w.cell? ⟨b, o, none⟩ = some u) : (w.setCell ⟨b', o', none⟩ v).cell? ⟨b, o, none⟩ = some u :=
  (World.cell?_setCell_other _ _ _ _ (by intro e; simp only [Addr.mk.injEq] at e; exact hb e.1.symm)).trans h
set_option maxHeartbeats 4000000 in
theorem linkOf_any (a : Option Addr) (n cap : Nat) (l : List Ins) (i : Nat) (x : Ins) (w : World) (h : SliceC w a l) (hn : l.length = n) (hi : l[i]? = some x) (hk : 0 ≤ x.k ∧ x.k ≤ 255) (hL : Laid w) :
    Calls Tryd.prog 81 #[.slice a n cap, .int .i64 i] w fun e w' => e = .returned (.agg #[.int .i64 (lkF x i), .int .i64 (lkT x i), .int .u8 (lkR x i)]) ∧ Below w.heap.size w w' := by
  have hlt : i < n := hn ▸ lt_len hi
  have hdl : (i : Int) < (n : Int) := by omega
  have HS := Lib.hid h
  have HI := Lib.hid hi
  obtain ⟨b, o, rfl, hb, c0, c1, c2, c3, c4⟩ := h.at hi
  clear h hi
  obtain ⟨r, hr⟩ : ∃ r, rol x.k = r := ⟨_, rfl⟩
  have hrc := rol_cases x.k
  rw [hr] at hrc
  have HR := Lib.hid hr
  have HL := Lib.hid hL
  clear hr hL
  rcases hrc with rfl | rfl | rfl | rfl | rfl
  · have ef : lkF x i = 0 := by unfold lkF; rw [if_pos (.inl HR.out)]
    have et : lkT x i = 0 := by unfold lkT; rw [if_pos (.inl HR.out)]
    have er : lkR x i = 0 := by unfold lkR; rw [if_pos (.inl HR.out)]
    rw [ef, et, er]; clear ef et er
    go_enter Tryd.func81, Tryd.ntmps81
    go_wp2_with (first | (go_at_call 73; refine (role_any _ _).mono ?_; rintro e w1 ⟨rfl, rfl⟩; rw [HR.out]))
    refine bodyPost_ret (v := .agg #[.int .i64 0, .int .i64 0, .int .u8 0]) (by simp [results, Tryd.results81, go_sem]) rfl ?_
    exact ⟨rfl, by go_grown⟩
  · have HA : Hid (Below w.heap.size w ((w.alloc (.cells #[.int .i64 0, .int .i64 0, .int .u8 0] 113)).alloc (.cells #[.int .i64 (i : Int), .int .i64 0, .int .u8 1] 113))) := Lib.hid (((Below.refl _ _).alloc (Nat.le_refl _) _).alloc (by simp) _)
    cases hv : validB x.k x.a x.b x.c x.d
    · have ef : lkF x i = 0 := by unfold lkF; rw [if_pos (.inr (.inl hv))]
      have et : lkT x i = 0 := by unfold lkT; rw [if_pos (.inr (.inl hv))]
      have er : lkR x i = 0 := by unfold lkR; rw [if_pos (.inr (.inl hv))]
      rw [ef, et, er]; clear ef et er
      have HV := Lib.hid hv
      clear hv
      go_enter Tryd.func81, Tryd.ntmps81
      go_wp2_with (first | (go_at_call 73; refine (role_any _ _).mono ?_; rintro e w1 ⟨rfl, rfl⟩; rw [HR.out]) | (go_at_call 23; refine (valid_any x.k x.a x.b x.c x.d _ hk (HL.out.below HA.out)).mono ?_; rintro e w1 ⟨rfl, hb1⟩; rw [HV.out]; have HB1 := Lib.hid (HA.out.trans (hb1.mono HA.out.size)); obtain ⟨⟨p0, p1, p2, q0, q1, q2⟩, s0, s1, s2, t0, t1, t2⟩ := box3 hb1; obtain ⟨b', o', ha', _, e0, e1, e2, e3, e4⟩ := (HS.out.below HB1.out).at HI.out; cases ha'; clear hb1))
      obtain ⟨y0, y1, y2⟩ := set3 w1 w.heap.size (.int .i64 0) (.int .i64 0) (.int .u8 0) _ _ _ p0 p1 p2
      refine bodyPost_ret (v := .agg #[.int .i64 0, .int .i64 0, .int .u8 0]) (by simp [results, Tryd.results81, go_sem, y0, y1, y2]) rfl ?_
      exact ⟨rfl, ((HB1.out.setCell (Nat.le_refl _) _).setCell (Nat.le_refl _) _).setCell (Nat.le_refl _) _⟩
    · have htv : tv x.k x.a x.b = tgt x := rfl
      have ef : lkF x i = (i : Int) := by unfold lkF; rw [if_neg (by rintro (h | h | h | h) <;> (first | (rw [HR.out] at h; omega) | (rw [show vld x = _ from hv] at h; cases h) | (have h1 := h.1; rw [HR.out] at h1; omega)))]
      have et : lkT x i = (tgt x) := by unfold lkT; rw [if_neg (by rintro (h | h | h | h) <;> (first | (rw [HR.out] at h; omega) | (rw [show vld x = _ from hv] at h; cases h) | (have h1 := h.1; rw [HR.out] at h1; omega)))]
      have er : lkR x i = 1 := by unfold lkR; rw [if_neg (by rintro (h | h | h | h) <;> (first | (rw [HR.out] at h; omega) | (rw [show vld x = _ from hv] at h; cases h) | (have h1 := h.1; rw [HR.out] at h1; omega)))]; exact HR.out
      rw [ef, et, er]; clear ef et er
      skip
      have HV := Lib.hid hv
      have HTV := Lib.hid htv
      generalize tgt x = tx at *
      clear hv htv
      go_enter Tryd.func81, Tryd.ntmps81
      go_wp2_with (first | (go_at_call 73; refine (role_any _ _).mono ?_; rintro e w1 ⟨rfl, rfl⟩; rw [HR.out]) | (go_at_call 23; refine (valid_any x.k x.a x.b x.c x.d _ hk (HL.out.below HA.out)).mono ?_; rintro e w1 ⟨rfl, hb1⟩; rw [HV.out]; have HB1 := Lib.hid (HA.out.trans (hb1.mono HA.out.size)); obtain ⟨⟨p0, p1, p2, q0, q1, q2⟩, s0, s1, s2, t0, t1, t2⟩ := box3 hb1; obtain ⟨b', o', ha', _, e0, e1, e2, e3, e4⟩ := (HS.out.below HB1.out).at HI.out; cases ha'; clear hb1) | (go_at_call 38; go_loud (refine (target_any x.k x.a x.b x.c x.d _ hk (HL.out.below HB1.out)).mono ?_; rintro e w2 ⟨rfl, hb2⟩; rw [HTV.out]; have HB2 := Lib.hid (below_on HB1.out hb2); replace q0 := frozen_on hb2 p0 q0; replace q1 := frozen_on hb2 p1 q1; replace q2 := frozen_on hb2 p2 q2; replace t1 := frozen_on hb2 s1 t1; replace p0 := cell_on hb2 p0; replace p1 := cell_on hb2 p1; replace p2 := cell_on hb2 p2; replace s0 := cell_on hb2 s0; replace s1 := cell_on hb2 s1; replace s2 := cell_on hb2 s2; clear hb2)))
      obtain ⟨y0, y1, y2⟩ := set3 (w2.setCell ⟨w.heap.size + 1, 1, none⟩ (.int .i64 tx)) w.heap.size (.int .i64 (i : Int)) (.int .i64 tx) (.int .u8 1) _ _ _ (set_past (by omega) p0) (set_past (by omega) p1) (set_past (by omega) p2)
      refine bodyPost_ret (v := .agg #[.int .i64 (i : Int), .int .i64 tx, .int .u8 1]) (by simp [results, Tryd.results81, go_sem, y0, y1, y2]) rfl ?_
      exact ⟨rfl, by first | exact (((HB2.out.setCell (by simp) _).setCell (Nat.le_refl _) _).setCell (Nat.le_refl _) _).setCell (Nat.le_refl _) _⟩
  · have HA : Hid (Below w.heap.size w ((w.alloc (.cells #[.int .i64 0, .int .i64 0, .int .u8 0] 113)).alloc (.cells #[.int .i64 (i : Int), .int .i64 0, .int .u8 2] 113))) := Lib.hid (((Below.refl _ _).alloc (Nat.le_refl _) _).alloc (by simp) _)
    cases hv : validB x.k x.a x.b x.c x.d
    · have ef : lkF x i = 0 := by unfold lkF; rw [if_pos (.inr (.inl hv))]
      have et : lkT x i = 0 := by unfold lkT; rw [if_pos (.inr (.inl hv))]
      have er : lkR x i = 0 := by unfold lkR; rw [if_pos (.inr (.inl hv))]
      rw [ef, et, er]; clear ef et er
      have HV := Lib.hid hv
      clear hv
      go_enter Tryd.func81, Tryd.ntmps81
      go_wp2_with (first | (go_at_call 73; refine (role_any _ _).mono ?_; rintro e w1 ⟨rfl, rfl⟩; rw [HR.out]) | (go_at_call 23; refine (valid_any x.k x.a x.b x.c x.d _ hk (HL.out.below HA.out)).mono ?_; rintro e w1 ⟨rfl, hb1⟩; rw [HV.out]; have HB1 := Lib.hid (HA.out.trans (hb1.mono HA.out.size)); obtain ⟨⟨p0, p1, p2, q0, q1, q2⟩, s0, s1, s2, t0, t1, t2⟩ := box3 hb1; obtain ⟨b', o', ha', _, e0, e1, e2, e3, e4⟩ := (HS.out.below HB1.out).at HI.out; cases ha'; clear hb1))
      obtain ⟨y0, y1, y2⟩ := set3 w1 w.heap.size (.int .i64 0) (.int .i64 0) (.int .u8 0) _ _ _ p0 p1 p2
      refine bodyPost_ret (v := .agg #[.int .i64 0, .int .i64 0, .int .u8 0]) (by simp [results, Tryd.results81, go_sem, y0, y1, y2]) rfl ?_
      exact ⟨rfl, ((HB1.out.setCell (Nat.le_refl _) _).setCell (Nat.le_refl _) _).setCell (Nat.le_refl _) _⟩
    · have htv : tv x.k x.a x.b = tgt x := rfl
      have ef : lkF x i = (i : Int) := by unfold lkF; rw [if_neg (by rintro (h | h | h | h) <;> (first | (rw [HR.out] at h; omega) | (rw [show vld x = _ from hv] at h; cases h) | (have h1 := h.1; rw [HR.out] at h1; omega)))]
      have et : lkT x i = (tgt x) := by unfold lkT; rw [if_neg (by rintro (h | h | h | h) <;> (first | (rw [HR.out] at h; omega) | (rw [show vld x = _ from hv] at h; cases h) | (have h1 := h.1; rw [HR.out] at h1; omega)))]
      have er : lkR x i = 2 := by unfold lkR; rw [if_neg (by rintro (h | h | h | h) <;> (first | (rw [HR.out] at h; omega) | (rw [show vld x = _ from hv] at h; cases h) | (have h1 := h.1; rw [HR.out] at h1; omega)))]; exact HR.out
      rw [ef, et, er]; clear ef et er
      skip
      have HV := Lib.hid hv
      have HTV := Lib.hid htv
      generalize tgt x = tx at *
      clear hv htv
      go_enter Tryd.func81, Tryd.ntmps81
      go_wp2_with (first | (go_at_call 73; refine (role_any _ _).mono ?_; rintro e w1 ⟨rfl, rfl⟩; rw [HR.out]) | (go_at_call 23; refine (valid_any x.k x.a x.b x.c x.d _ hk (HL.out.below HA.out)).mono ?_; rintro e w1 ⟨rfl, hb1⟩; rw [HV.out]; have HB1 := Lib.hid (HA.out.trans (hb1.mono HA.out.size)); obtain ⟨⟨p0, p1, p2, q0, q1, q2⟩, s0, s1, s2, t0, t1, t2⟩ := box3 hb1; obtain ⟨b', o', ha', _, e0, e1, e2, e3, e4⟩ := (HS.out.below HB1.out).at HI.out; cases ha'; clear hb1) | (go_at_call 38; go_loud (refine (target_any x.k x.a x.b x.c x.d _ hk (HL.out.below HB1.out)).mono ?_; rintro e w2 ⟨rfl, hb2⟩; rw [HTV.out]; have HB2 := Lib.hid (below_on HB1.out hb2); replace q0 := frozen_on hb2 p0 q0; replace q1 := frozen_on hb2 p1 q1; replace q2 := frozen_on hb2 p2 q2; replace t1 := frozen_on hb2 s1 t1; replace p0 := cell_on hb2 p0; replace p1 := cell_on hb2 p1; replace p2 := cell_on hb2 p2; replace s0 := cell_on hb2 s0; replace s1 := cell_on hb2 s1; replace s2 := cell_on hb2 s2; clear hb2)))
      obtain ⟨y0, y1, y2⟩ := set3 (w2.setCell ⟨w.heap.size + 1, 1, none⟩ (.int .i64 tx)) w.heap.size (.int .i64 (i : Int)) (.int .i64 tx) (.int .u8 2) _ _ _ (set_past (by omega) p0) (set_past (by omega) p1) (set_past (by omega) p2)
      refine bodyPost_ret (v := .agg #[.int .i64 (i : Int), .int .i64 tx, .int .u8 2]) (by simp [results, Tryd.results81, go_sem, y0, y1, y2]) rfl ?_
      exact ⟨rfl, by first | exact (((HB2.out.setCell (by simp) _).setCell (Nat.le_refl _) _).setCell (Nat.le_refl _) _).setCell (Nat.le_refl _) _⟩
  · have HA : Hid (Below w.heap.size w ((w.alloc (.cells #[.int .i64 0, .int .i64 0, .int .u8 0] 113)).alloc (.cells #[.int .i64 (i : Int), .int .i64 0, .int .u8 3] 113))) := Lib.hid (((Below.refl _ _).alloc (Nat.le_refl _) _).alloc (by simp) _)
    cases hv : validB x.k x.a x.b x.c x.d
    · have ef : lkF x i = 0 := by unfold lkF; rw [if_pos (.inr (.inl hv))]
      have et : lkT x i = 0 := by unfold lkT; rw [if_pos (.inr (.inl hv))]
      have er : lkR x i = 0 := by unfold lkR; rw [if_pos (.inr (.inl hv))]
      rw [ef, et, er]; clear ef et er
      have HV := Lib.hid hv
      clear hv
      go_enter Tryd.func81, Tryd.ntmps81
      go_wp2_with (first | (go_at_call 73; refine (role_any _ _).mono ?_; rintro e w1 ⟨rfl, rfl⟩; rw [HR.out]) | (go_at_call 23; refine (valid_any x.k x.a x.b x.c x.d _ hk (HL.out.below HA.out)).mono ?_; rintro e w1 ⟨rfl, hb1⟩; rw [HV.out]; have HB1 := Lib.hid (HA.out.trans (hb1.mono HA.out.size)); obtain ⟨⟨p0, p1, p2, q0, q1, q2⟩, s0, s1, s2, t0, t1, t2⟩ := box3 hb1; obtain ⟨b', o', ha', _, e0, e1, e2, e3, e4⟩ := (HS.out.below HB1.out).at HI.out; cases ha'; clear hb1))
      obtain ⟨y0, y1, y2⟩ := set3 w1 w.heap.size (.int .i64 0) (.int .i64 0) (.int .u8 0) _ _ _ p0 p1 p2
      refine bodyPost_ret (v := .agg #[.int .i64 0, .int .i64 0, .int .u8 0]) (by simp [results, Tryd.results81, go_sem, y0, y1, y2]) rfl ?_
      exact ⟨rfl, ((HB1.out.setCell (Nat.le_refl _) _).setCell (Nat.le_refl _) _).setCell (Nat.le_refl _) _⟩
    · have htv : tv x.k x.a x.b = tgt x := rfl
      by_cases hc : tgt x < (i : Int)
      · have ef : lkF x i = 0 := by unfold lkF; rw [if_pos (.inr (.inr (.inl ⟨HR.out, hc⟩)))]
        have et : lkT x i = 0 := by unfold lkT; rw [if_pos (.inr (.inr (.inl ⟨HR.out, hc⟩)))]
        have er : lkR x i = 0 := by unfold lkR; rw [if_pos (.inr (.inr (.inl ⟨HR.out, hc⟩)))]
        rw [ef, et, er]; clear ef et er
        have hd : decide (tgt x < (i : Int)) = true := by simpa using hc
        have HV := Lib.hid hv
        have HTV := Lib.hid htv
        generalize tgt x = tx at *
        clear hv htv
        go_enter Tryd.func81, Tryd.ntmps81
        go_wp2_with (first | (go_at_call 73; refine (role_any _ _).mono ?_; rintro e w1 ⟨rfl, rfl⟩; rw [HR.out]) | (go_at_call 23; refine (valid_any x.k x.a x.b x.c x.d _ hk (HL.out.below HA.out)).mono ?_; rintro e w1 ⟨rfl, hb1⟩; rw [HV.out]; have HB1 := Lib.hid (HA.out.trans (hb1.mono HA.out.size)); obtain ⟨⟨p0, p1, p2, q0, q1, q2⟩, s0, s1, s2, t0, t1, t2⟩ := box3 hb1; obtain ⟨b', o', ha', _, e0, e1, e2, e3, e4⟩ := (HS.out.below HB1.out).at HI.out; cases ha'; clear hb1) | (go_at_call 38; go_loud (refine (target_any x.k x.a x.b x.c x.d _ hk (HL.out.below HB1.out)).mono ?_; rintro e w2 ⟨rfl, hb2⟩; rw [HTV.out]; have HB2 := Lib.hid (below_on HB1.out hb2); replace q0 := frozen_on hb2 p0 q0; replace q1 := frozen_on hb2 p1 q1; replace q2 := frozen_on hb2 p2 q2; replace t1 := frozen_on hb2 s1 t1; replace p0 := cell_on hb2 p0; replace p1 := cell_on hb2 p1; replace p2 := cell_on hb2 p2; replace s0 := cell_on hb2 s0; replace s1 := cell_on hb2 s1; replace s2 := cell_on hb2 s2; clear hb2)))
        obtain ⟨y0, y1, y2⟩ := set3 (w2.setCell ⟨w.heap.size + 1, 1, none⟩ (.int .i64 tx)) w.heap.size (.int .i64 0) (.int .i64 0) (.int .u8 0) _ _ _ (set_past (by omega) p0) (set_past (by omega) p1) (set_past (by omega) p2)
        refine bodyPost_ret (v := .agg #[.int .i64 0, .int .i64 0, .int .u8 0]) (by simp [results, Tryd.results81, go_sem, y0, y1, y2]) rfl ?_
        exact ⟨rfl, by first | exact (((HB2.out.setCell (by simp) _).setCell (Nat.le_refl _) _).setCell (Nat.le_refl _) _).setCell (Nat.le_refl _) _⟩
      · have ef : lkF x i = (i : Int) := by unfold lkF; rw [if_neg (by rintro (h | h | h | h) <;> (first | (rw [HR.out] at h; omega) | (rw [show vld x = _ from hv] at h; cases h) | exact hc h.2 | (have h1 := h.1; rw [HR.out] at h1; omega)))]
        have et : lkT x i = (tgt x) := by unfold lkT; rw [if_neg (by rintro (h | h | h | h) <;> (first | (rw [HR.out] at h; omega) | (rw [show vld x = _ from hv] at h; cases h) | exact hc h.2 | (have h1 := h.1; rw [HR.out] at h1; omega)))]
        have er : lkR x i = 3 := by unfold lkR; rw [if_neg (by rintro (h | h | h | h) <;> (first | (rw [HR.out] at h; omega) | (rw [show vld x = _ from hv] at h; cases h) | exact hc h.2 | (have h1 := h.1; rw [HR.out] at h1; omega)))]; exact HR.out
        rw [ef, et, er]; clear ef et er
        have hd : decide (tgt x < (i : Int)) = false := by simpa using hc
        have HV := Lib.hid hv
        have HTV := Lib.hid htv
        generalize tgt x = tx at *
        clear hv htv
        go_enter Tryd.func81, Tryd.ntmps81
        go_wp2_with (first | (go_at_call 73; refine (role_any _ _).mono ?_; rintro e w1 ⟨rfl, rfl⟩; rw [HR.out]) | (go_at_call 23; refine (valid_any x.k x.a x.b x.c x.d _ hk (HL.out.below HA.out)).mono ?_; rintro e w1 ⟨rfl, hb1⟩; rw [HV.out]; have HB1 := Lib.hid (HA.out.trans (hb1.mono HA.out.size)); obtain ⟨⟨p0, p1, p2, q0, q1, q2⟩, s0, s1, s2, t0, t1, t2⟩ := box3 hb1; obtain ⟨b', o', ha', _, e0, e1, e2, e3, e4⟩ := (HS.out.below HB1.out).at HI.out; cases ha'; clear hb1) | (go_at_call 38; go_loud (refine (target_any x.k x.a x.b x.c x.d _ hk (HL.out.below HB1.out)).mono ?_; rintro e w2 ⟨rfl, hb2⟩; rw [HTV.out]; have HB2 := Lib.hid (below_on HB1.out hb2); replace q0 := frozen_on hb2 p0 q0; replace q1 := frozen_on hb2 p1 q1; replace q2 := frozen_on hb2 p2 q2; replace t1 := frozen_on hb2 s1 t1; replace p0 := cell_on hb2 p0; replace p1 := cell_on hb2 p1; replace p2 := cell_on hb2 p2; replace s0 := cell_on hb2 s0; replace s1 := cell_on hb2 s1; replace s2 := cell_on hb2 s2; clear hb2)))
        obtain ⟨y0, y1, y2⟩ := set3 (w2.setCell ⟨w.heap.size + 1, 1, none⟩ (.int .i64 tx)) w.heap.size (.int .i64 (i : Int)) (.int .i64 tx) (.int .u8 3) _ _ _ (set_past (by omega) p0) (set_past (by omega) p1) (set_past (by omega) p2)
        refine bodyPost_ret (v := .agg #[.int .i64 (i : Int), .int .i64 tx, .int .u8 3]) (by simp [results, Tryd.results81, go_sem, y0, y1, y2]) rfl ?_
        exact ⟨rfl, by first | exact (((HB2.out.setCell (by simp) _).setCell (Nat.le_refl _) _).setCell (Nat.le_refl _) _).setCell (Nat.le_refl _) _⟩
  · have HA : Hid (Below w.heap.size w ((w.alloc (.cells #[.int .i64 0, .int .i64 0, .int .u8 0] 113)).alloc (.cells #[.int .i64 (i : Int), .int .i64 0, .int .u8 4] 113))) := Lib.hid (((Below.refl _ _).alloc (Nat.le_refl _) _).alloc (by simp) _)
    cases hv : validB x.k x.a x.b x.c x.d
    · have ef : lkF x i = 0 := by unfold lkF; rw [if_pos (.inr (.inl hv))]
      have et : lkT x i = 0 := by unfold lkT; rw [if_pos (.inr (.inl hv))]
      have er : lkR x i = 0 := by unfold lkR; rw [if_pos (.inr (.inl hv))]
      rw [ef, et, er]; clear ef et er
      have HV := Lib.hid hv
      clear hv
      go_enter Tryd.func81, Tryd.ntmps81
      go_wp2_with (first | (go_at_call 73; refine (role_any _ _).mono ?_; rintro e w1 ⟨rfl, rfl⟩; rw [HR.out]) | (go_at_call 23; refine (valid_any x.k x.a x.b x.c x.d _ hk (HL.out.below HA.out)).mono ?_; rintro e w1 ⟨rfl, hb1⟩; rw [HV.out]; have HB1 := Lib.hid (HA.out.trans (hb1.mono HA.out.size)); obtain ⟨⟨p0, p1, p2, q0, q1, q2⟩, s0, s1, s2, t0, t1, t2⟩ := box3 hb1; obtain ⟨b', o', ha', _, e0, e1, e2, e3, e4⟩ := (HS.out.below HB1.out).at HI.out; cases ha'; clear hb1))
      obtain ⟨y0, y1, y2⟩ := set3 w1 w.heap.size (.int .i64 0) (.int .i64 0) (.int .u8 0) _ _ _ p0 p1 p2
      refine bodyPost_ret (v := .agg #[.int .i64 0, .int .i64 0, .int .u8 0]) (by simp [results, Tryd.results81, go_sem, y0, y1, y2]) rfl ?_
      exact ⟨rfl, ((HB1.out.setCell (Nat.le_refl _) _).setCell (Nat.le_refl _) _).setCell (Nat.le_refl _) _⟩
    · have htv : tv x.k x.a x.b = tgt x := rfl
      by_cases hc : (i : Int) < tgt x
      · have ef : lkF x i = 0 := by unfold lkF; rw [if_pos (.inr (.inr (.inr ⟨HR.out, hc⟩)))]
        have et : lkT x i = 0 := by unfold lkT; rw [if_pos (.inr (.inr (.inr ⟨HR.out, hc⟩)))]
        have er : lkR x i = 0 := by unfold lkR; rw [if_pos (.inr (.inr (.inr ⟨HR.out, hc⟩)))]
        rw [ef, et, er]; clear ef et er
        have hd : decide ((i : Int) < tgt x) = true := by simpa using hc
        have HV := Lib.hid hv
        have HTV := Lib.hid htv
        generalize tgt x = tx at *
        clear hv htv
        go_enter Tryd.func81, Tryd.ntmps81
        go_wp2_with (first | (go_at_call 73; refine (role_any _ _).mono ?_; rintro e w1 ⟨rfl, rfl⟩; rw [HR.out]) | (go_at_call 23; refine (valid_any x.k x.a x.b x.c x.d _ hk (HL.out.below HA.out)).mono ?_; rintro e w1 ⟨rfl, hb1⟩; rw [HV.out]; have HB1 := Lib.hid (HA.out.trans (hb1.mono HA.out.size)); obtain ⟨⟨p0, p1, p2, q0, q1, q2⟩, s0, s1, s2, t0, t1, t2⟩ := box3 hb1; obtain ⟨b', o', ha', _, e0, e1, e2, e3, e4⟩ := (HS.out.below HB1.out).at HI.out; cases ha'; clear hb1) | (go_at_call 38; go_loud (refine (target_any x.k x.a x.b x.c x.d _ hk (HL.out.below HB1.out)).mono ?_; rintro e w2 ⟨rfl, hb2⟩; rw [HTV.out]; have HB2 := Lib.hid (below_on HB1.out hb2); replace q0 := frozen_on hb2 p0 q0; replace q1 := frozen_on hb2 p1 q1; replace q2 := frozen_on hb2 p2 q2; replace t1 := frozen_on hb2 s1 t1; replace p0 := cell_on hb2 p0; replace p1 := cell_on hb2 p1; replace p2 := cell_on hb2 p2; replace s0 := cell_on hb2 s0; replace s1 := cell_on hb2 s1; replace s2 := cell_on hb2 s2; clear hb2)))
        obtain ⟨y0, y1, y2⟩ := set3 (w2.setCell ⟨w.heap.size + 1, 1, none⟩ (.int .i64 tx)) w.heap.size (.int .i64 0) (.int .i64 0) (.int .u8 0) _ _ _ (set_past (by omega) p0) (set_past (by omega) p1) (set_past (by omega) p2)
        refine bodyPost_ret (v := .agg #[.int .i64 0, .int .i64 0, .int .u8 0]) (by simp [results, Tryd.results81, go_sem, y0, y1, y2]) rfl ?_
        exact ⟨rfl, by first | exact (((HB2.out.setCell (by simp) _).setCell (Nat.le_refl _) _).setCell (Nat.le_refl _) _).setCell (Nat.le_refl _) _⟩
      · have ef : lkF x i = (i : Int) := by unfold lkF; rw [if_neg (by rintro (h | h | h | h) <;> (first | (rw [HR.out] at h; omega) | (rw [show vld x = _ from hv] at h; cases h) | exact hc h.2 | (have h1 := h.1; rw [HR.out] at h1; omega)))]
        have et : lkT x i = (tgt x) := by unfold lkT; rw [if_neg (by rintro (h | h | h | h) <;> (first | (rw [HR.out] at h; omega) | (rw [show vld x = _ from hv] at h; cases h) | exact hc h.2 | (have h1 := h.1; rw [HR.out] at h1; omega)))]
        have er : lkR x i = 4 := by unfold lkR; rw [if_neg (by rintro (h | h | h | h) <;> (first | (rw [HR.out] at h; omega) | (rw [show vld x = _ from hv] at h; cases h) | exact hc h.2 | (have h1 := h.1; rw [HR.out] at h1; omega)))]; exact HR.out
        rw [ef, et, er]; clear ef et er
        have hd : decide ((i : Int) < tgt x) = false := by simpa using hc
        have HV := Lib.hid hv
        have HTV := Lib.hid htv
        generalize tgt x = tx at *
        clear hv htv
        go_enter Tryd.func81, Tryd.ntmps81
        go_wp2_with (first | (go_at_call 73; refine (role_any _ _).mono ?_; rintro e w1 ⟨rfl, rfl⟩; rw [HR.out]) | (go_at_call 23; refine (valid_any x.k x.a x.b x.c x.d _ hk (HL.out.below HA.out)).mono ?_; rintro e w1 ⟨rfl, hb1⟩; rw [HV.out]; have HB1 := Lib.hid (HA.out.trans (hb1.mono HA.out.size)); obtain ⟨⟨p0, p1, p2, q0, q1, q2⟩, s0, s1, s2, t0, t1, t2⟩ := box3 hb1; obtain ⟨b', o', ha', _, e0, e1, e2, e3, e4⟩ := (HS.out.below HB1.out).at HI.out; cases ha'; clear hb1) | (go_at_call 38; go_loud (refine (target_any x.k x.a x.b x.c x.d _ hk (HL.out.below HB1.out)).mono ?_; rintro e w2 ⟨rfl, hb2⟩; rw [HTV.out]; have HB2 := Lib.hid (below_on HB1.out hb2); replace q0 := frozen_on hb2 p0 q0; replace q1 := frozen_on hb2 p1 q1; replace q2 := frozen_on hb2 p2 q2; replace t1 := frozen_on hb2 s1 t1; replace p0 := cell_on hb2 p0; replace p1 := cell_on hb2 p1; replace p2 := cell_on hb2 p2; replace s0 := cell_on hb2 s0; replace s1 := cell_on hb2 s1; replace s2 := cell_on hb2 s2; clear hb2)))
        obtain ⟨y0, y1, y2⟩ := set3 (w2.setCell ⟨w.heap.size + 1, 1, none⟩ (.int .i64 tx)) w.heap.size (.int .i64 (i : Int)) (.int .i64 tx) (.int .u8 4) _ _ _ (set_past (by omega) p0) (set_past (by omega) p1) (set_past (by omega) p2)
        refine bodyPost_ret (v := .agg #[.int .i64 (i : Int), .int .i64 tx, .int .u8 4]) (by simp [results, Tryd.results81, go_sem, y0, y1, y2]) rfl ?_
        exact ⟨rfl, by first | exact (((HB2.out.setCell (by simp) _).setCell (Nat.le_refl _) _).setCell (Nat.le_refl _) _).setCell (Nat.le_refl _) _⟩
end Go.Proofs.YtfhojpnofmlkdaaDoor
