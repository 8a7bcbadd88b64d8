/- Contracts: the target of an instruction. -/
import Derived.Test.YtfhojpnofmlkdaaDoorRows
import Derived.WalkKit
import Derived.ProofKit
import Derived.OpenShut
import Derived.Below
import Derived.Lib.Hide
import Derived.Test.YtfhojpnofmlkdaaDoorLook
import Derived.Test.YtfhojpnofmlkdaaDoorShelf
import Derived.Outline
import Derived.Handy
namespace Go.Proofs.YtfhojpnofmlkdaaDoor
open Go.ChangeShapes Go.WideShapes Go.ChangeAt Go.RowKit
set_option linter.unusedSimpArgs false
set_option linter.unusedVariables false
set_option maxRecDepth 100000
def tg (k : Int) : Int := if k = 22 ∨ k = 25 ∨ k = 30 ∨ k = 31 ∨ k = 32 ∨ k = 33 then 0 else if k = 23 ∨ k = 24 ∨ k = 26 ∨ k = 27 then 1 else -1
theorem tg_cases (k : Int) : tg k = 0 ∨ tg k = 1 ∨ tg k = -1 := by
  unfold tg
  split
  · exact .inl rfl
  · split
    · exact .inr (.inl rfl)
    · exact .inr (.inr rfl)
theorem index_tg (k : Int) (h0 : 0 ≤ k) : Lib.indexByte (opS k).data.toList (Int.toNat 116).toUInt8 = tg k := by
  obtain ⟨n, rfl⟩ : ∃ n : Nat, k = n := ⟨k.toNat, by omega⟩
  by_cases hn : n < 35
  · have hd : ∀ n : Nat, n < 35 → Lib.indexByte (opS (n : Int)).data.toList (Int.toNat 116).toUInt8 = tg (n : Int) := by decide +kernel
    exact hd n hn
  · rw [opS_none _ (by omega)]
    unfold tg
    rw [if_neg (by omega), if_neg (by omega)]
    rfl
set_option maxHeartbeats 1000000 in
theorem targetOf_t0 (p : Nat) (k : Int) (w : World) (h0 : 0 ≤ k ∧ k ≤ 255) (hc : w.cell? ⟨p, 0, none⟩ = some (.int .u8 k)) (hL : Laid w) (ht : tg k = 0) :
    Calls Tryd.prog 50 #[.pointer (some ⟨p, 0, none⟩)] w fun e w' => e = .returned (.pointer (some ⟨p, 1, none⟩)) ∧ Below w.heap.size w w' := by
  have HL := Lib.hid hL
  have HI : Lib.indexByte (opS k).data.toList (Int.toNat 116).toUInt8 = 0 := (index_tg k h0.1).trans ht
  clear hL ht
  have hf := field1
  go_enter Tryd.func50, Tryd.ntmps50
  go_wp2_with (first | (go_at_call 45; refine (find_any _ _ h0 HL.out).mono ?_; rintro e w1 ⟨rfl, hb⟩) | (go_at_call 62; refine (Tryd.strings_IndexByte _ _ _).mono ?_; rintro e w2 ⟨rfl, hw⟩; subst hw; rw [HI]))
  go_ret
  exact ⟨rfl, hb⟩
set_option maxHeartbeats 1000000 in
theorem targetOf_t1 (p : Nat) (k : Int) (w : World) (h0 : 0 ≤ k ∧ k ≤ 255) (hc : w.cell? ⟨p, 0, none⟩ = some (.int .u8 k)) (hL : Laid w) (ht : tg k = 1) :
    Calls Tryd.prog 50 #[.pointer (some ⟨p, 0, none⟩)] w fun e w' => e = .returned (.pointer (some ⟨p, 2, none⟩)) ∧ Below w.heap.size w w' := by
  have HL := Lib.hid hL
  have HI : Lib.indexByte (opS k).data.toList (Int.toNat 116).toUInt8 = 1 := (index_tg k h0.1).trans ht
  clear hL ht
  have hf := field1
  go_enter Tryd.func50, Tryd.ntmps50
  go_wp2_with (first | (go_at_call 45; refine (find_any _ _ h0 HL.out).mono ?_; rintro e w1 ⟨rfl, hb⟩) | (go_at_call 62; refine (Tryd.strings_IndexByte _ _ _).mono ?_; rintro e w2 ⟨rfl, hw⟩; subst hw; rw [HI]))
  go_ret
  exact ⟨rfl, hb⟩
set_option maxHeartbeats 1000000 in
theorem targetOf_tn (p : Nat) (k : Int) (w : World) (h0 : 0 ≤ k ∧ k ≤ 255) (hc : w.cell? ⟨p, 0, none⟩ = some (.int .u8 k)) (hL : Laid w) (ht : tg k = -1) :
    Calls Tryd.prog 50 #[.pointer (some ⟨p, 0, none⟩)] w fun e w' => e = .returned (.pointer none) ∧ Below w.heap.size w w' := by
  have HL := Lib.hid hL
  have HI : Lib.indexByte (opS k).data.toList (Int.toNat 116).toUInt8 = -1 := (index_tg k h0.1).trans ht
  clear hL ht
  have hf := field1
  go_enter Tryd.func50, Tryd.ntmps50
  go_wp2_with (first | (go_at_call 45; refine (find_any _ _ h0 HL.out).mono ?_; rintro e w1 ⟨rfl, hb⟩) | (go_at_call 62; refine (Tryd.strings_IndexByte _ _ _).mono ?_; rintro e w2 ⟨rfl, hw⟩; subst hw; rw [HI]))
  go_ret
  exact ⟨rfl, hb⟩
theorem box_keeps {w w1 : World} {cs : Array Value} {T : TypeId} (hb : Below (w.heap.size + 1) (w.alloc (.cells cs T)) w1) (i : Nat) (v : Value) (h : cs[i]? = some v) : w1.cell? ⟨w.heap.size, i, none⟩ = some v := by
  rw [hb.cell (p := ⟨w.heap.size, i, none⟩) (by simp)]
  rw [World.cell?_alloc_at _ _ _ _ rfl]; exact h
theorem bcell {W w1 : World} (hb : Below W.heap.size W w1) : (∀ b o, b < W.heap.size → w1.cell? ⟨b, o, none⟩ = W.cell? ⟨b, o, none⟩) ∧ (∀ b o, b < W.heap.size → w1.frozen? ⟨b, o, none⟩ = W.frozen? ⟨b, o, none⟩) :=
  ⟨fun b o h => hb.cell (p := ⟨b, o, none⟩) h, fun b o h => hb.frozen (p := ⟨b, o, none⟩) h⟩
theorem below_box2 {w w1 : World} {o o' : Obj} (hb : Below (w.heap.size + 1 + 1) ((w.alloc o).alloc o') w1) : Below w.heap.size w w1 := (((Below.refl _ _).alloc (Nat.le_refl _) _).alloc (by simp) _).trans (hb.mono (by omega))
theorem box2_a {w w1 : World} {cs ds : Array Value} {T T' : TypeId} (hb : Below ((w.alloc (.cells cs T)).alloc (.cells ds T')).heap.size ((w.alloc (.cells cs T)).alloc (.cells ds T')) w1) (i : Nat) (v : Value) (h : cs[i]? = some v) :
    w1.cell? ⟨w.heap.size, i, none⟩ = some v ∧ w1.frozen? ⟨w.heap.size, i, none⟩ = false := by
  rw [hb.cell (p := ⟨w.heap.size, i, none⟩) (by simp; omega), hb.frozen (p := ⟨w.heap.size, i, none⟩) (by simp; omega)]
  rw [World.cell?_alloc_past _ _ _ (by simp), World.frozen?_alloc_past _ _ _ (by simp), World.cell?_alloc_at _ _ _ _ rfl, World.frozen?_alloc_at _ _ _ _ rfl]
  exact ⟨h, rfl⟩
theorem box2_b {w w1 : World} {cs ds : Array Value} {T T' : TypeId} (hb : Below ((w.alloc (.cells cs T)).alloc (.cells ds T')).heap.size ((w.alloc (.cells cs T)).alloc (.cells ds T')) w1) (i : Nat) (v : Value) (h : ds[i]? = some v) :
    w1.cell? ⟨w.heap.size + 1, i, none⟩ = some v ∧ w1.frozen? ⟨w.heap.size + 1, i, none⟩ = false := by
  rw [hb.cell (p := ⟨w.heap.size + 1, i, none⟩) (by simp), hb.frozen (p := ⟨w.heap.size + 1, i, none⟩) (by simp)]
  rw [World.cell?_alloc_at _ _ _ _ (by simp), World.frozen?_alloc_at _ _ _ _ (by simp)]
  exact ⟨h, rfl⟩
theorem set5 (w : World) (B : Nat) (v0 v1 v2 v3 v4 u0 u1 u2 u3 u4 : Value) (h0 : w.cell? ⟨B, 0, none⟩ = some u0) (h1 : w.cell? ⟨B, 1, none⟩ = some u1) (h2 : w.cell? ⟨B, 2, none⟩ = some u2) (h3 : w.cell? ⟨B, 3, none⟩ = some u3) (h4 : w.cell? ⟨B, 4, none⟩ = some u4) (i : Nat) (v : Value) (hi : [v0, v1, v2, v3, v4][i]? = some v) :
    (((((w.setCell ⟨B, 0, none⟩ v0).setCell ⟨B, 1, none⟩ v1).setCell ⟨B, 2, none⟩ v2).setCell ⟨B, 3, none⟩ v3).setCell ⟨B, 4, none⟩ v4).cell? ⟨B, i, none⟩ = some v := by
  have n : ∀ (w : World) (i j : Nat) (v u : Value), i ≠ j → w.cell? ⟨B, i, none⟩ = some u → (w.setCell ⟨B, j, none⟩ v).cell? ⟨B, i, none⟩ = some u := fun w i j v u hij h => (World.cell?_setCell_other _ _ _ _ (by simp [hij])).trans h
  have s : ∀ (w : World) (i : Nat) (v u : Value), w.cell? ⟨B, i, none⟩ = some u → (w.setCell ⟨B, i, none⟩ v).cell? ⟨B, i, none⟩ = some v := fun w i v u h => World.cell?_setCell_same _ _ _ h
  match i, hi with
  | 0, hi => simp at hi; subst hi; exact n _ 0 4 _ _ (by omega) (n _ 0 3 _ _ (by omega) (n _ 0 2 _ _ (by omega) (n _ 0 1 _ _ (by omega) (s _ 0 _ _ h0))))
  | 1, hi => simp at hi; subst hi; exact n _ 1 4 _ _ (by omega) (n _ 1 3 _ _ (by omega) (n _ 1 2 _ _ (by omega) (s _ 1 _ _ (n _ 1 0 _ _ (by omega) h1))))
  | 2, hi => simp at hi; subst hi; exact n _ 2 4 _ _ (by omega) (n _ 2 3 _ _ (by omega) (s _ 2 _ _ (n _ 2 1 _ _ (by omega) (n _ 2 0 _ _ (by omega) h2))))
  | 3, hi => simp at hi; subst hi; exact n _ 3 4 _ _ (by omega) (s _ 3 _ _ (n _ 3 2 _ _ (by omega) (n _ 3 1 _ _ (by omega) (n _ 3 0 _ _ (by omega) h3))))
  | 4, hi => simp at hi; subst hi; exact s _ 4 _ _ (n _ 4 3 _ _ (by omega) (n _ 4 2 _ _ (by omega) (n _ 4 1 _ _ (by omega) (n _ 4 0 _ _ (by omega) h4))))
theorem set5b (w0 w : World) (B : Nat) (h : Below w0.heap.size w0 w) (hB : w0.heap.size ≤ B) (v0 v1 v2 v3 v4 : Value) : Below w0.heap.size w0 (((((w.setCell ⟨B, 0, none⟩ v0).setCell ⟨B, 1, none⟩ v1).setCell ⟨B, 2, none⟩ v2).setCell ⟨B, 3, none⟩ v3).setCell ⟨B, 4, none⟩ v4) :=
  ((((h.setCell hB _).setCell hB _).setCell hB _).setCell hB _).setCell hB _
theorem below_box {w w1 : World} {o : Obj} (hb : Below (w.heap.size + 1) (w.alloc o) w1) : Below w.heap.size w w1 := ((Below.refl _ _).alloc (Nat.le_refl _) _).trans (hb.mono (by simp))
theorem Laid.alloc {w : World} (h : Laid w) (o : Obj) : Laid (w.alloc o) := h.below ((Below.refl _ _).alloc (Nat.le_refl _) _)
def tv (k a b : Int) : Int := if tg k = 0 then a else if tg k = 1 then b else 0
def tb (k : Int) : Bool := decide (tg k = 0 ∨ tg k = 1)
set_option maxHeartbeats 2000000 in
theorem target_any (k a b c d : Int) (w : World) (h0 : 0 ≤ k ∧ k ≤ 255) (hL : Laid w) :
    Calls Tryd.prog 38 #[.agg #[.int .u8 k, .int .i64 a, .int .i64 b, .int .i64 c, .int .i64 d]] w fun e w' => e = .returned (.tuple #[.int .i64 (tv k a b), .bool (tb k)]) ∧ Below w.heap.size w w' := by
  have HL := Lib.hid (hL.alloc (.cells #[.int .u8 k, .int .i64 a, .int .i64 b, .int .i64 c, .int .i64 d] 47))
  clear hL
  rcases tg_cases k with ht | ht | ht
  · have e1 : tv k a b = a := by unfold tv; simp [ht]
    have e2 : tb k = true := by unfold tb; simp [ht]
    rw [e1, e2]
    have HT := Lib.hid ht
    clear e1 e2 ht
    go_enter Tryd.func38, Tryd.ntmps38
    go_wp2_with (go_at_call 50; refine (targetOf_t0 _ k _ h0 (by go_simp) HL.out HT.out).mono ?_; rintro e w1 ⟨rfl, hb⟩; have hb' := below_box (by simpa using hb); have c1 := box_keeps (by simpa using hb) 1 _ rfl; have c2 := box_keeps (by simpa using hb) 2 _ rfl; clear hb)
    go_ret2
    exact ⟨rfl, hb'⟩
  · have e1 : tv k a b = b := by unfold tv; simp [ht]
    have e2 : tb k = true := by unfold tb; simp [ht]
    rw [e1, e2]
    have HT := Lib.hid ht
    clear e1 e2 ht
    go_enter Tryd.func38, Tryd.ntmps38
    go_wp2_with (go_at_call 50; refine (targetOf_t1 _ k _ h0 (by go_simp) HL.out HT.out).mono ?_; rintro e w1 ⟨rfl, hb⟩; have hb' := below_box (by simpa using hb); have c1 := box_keeps (by simpa using hb) 1 _ rfl; have c2 := box_keeps (by simpa using hb) 2 _ rfl; clear hb)
    go_ret2
    exact ⟨rfl, hb'⟩
  · have e1 : tv k a b = 0 := by unfold tv; simp [ht]
    have e2 : tb k = false := by unfold tb; simp [ht]
    rw [e1, e2]
    have HT := Lib.hid ht
    clear e1 e2 ht
    go_enter Tryd.func38, Tryd.ntmps38
    go_wp2_with (go_at_call 50; refine (targetOf_tn _ k _ h0 (by go_simp) HL.out HT.out).mono ?_; rintro e w1 ⟨rfl, hb⟩; have hb' := below_box (by simpa using hb); have c1 := box_keeps (by simpa using hb) 1 _ rfl; have c2 := box_keeps (by simpa using hb) 2 _ rfl; clear hb)
    go_ret2
    exact ⟨rfl, hb'⟩
def rta (k a x : Int) : Int := if tg k = 0 then x else a
def rtb (k b x : Int) : Int := if tg k = 1 then x else b
end Go.Proofs.YtfhojpnofmlkdaaDoor
