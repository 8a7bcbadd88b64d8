/- slices.Insert of one number ahead of the first or behind the last element. -/
import Derived.Test.YthbeillgpnffmaaRows
import Derived.WalkKit
import Derived.ProofKit
import Derived.OpenShut
import Derived.Below
import Derived.Lib.Hide
import Derived.WalkSpells
import Derived.WalkLawsBesides
import Derived.Outline
import Derived.WalkSmall
import Derived.IntWalk
import Derived.Deep.OwnRows
import Derived.Deep.QuietTactic
import Derived.BigQuiet
import Derived.Test.YthbeillgpnffmaaBase
namespace Go.Proofs.Ythbeillgpnffmaa
open Go.ChangeShapes Go.WideShapes Go.ChangeAt Go.RowKit
set_option linter.unusedSimpArgs false
set_option linter.unusedVariables false

theorem rowIs_setCells {b : Nat} {t : TypeId} {n : Nat} : ∀ (vs : List Value) (o : Nat) (w : World) (f : Nat → Value), w.rowIs b t n f →
    (w.setCells b o vs).rowIs b t n (fun j => if o ≤ j ∧ j < o + vs.length then vs.getD (j - o) undef else f j) := by
  intro vs
  induction vs with
  | nil => intro o w f h; exact h.congr fun i _ => by rw [if_neg (by rw [List.length_nil]; omega)]
  | cons v vs ih =>
    intro o w f h
    rw [World.setCells]
    refine (ih (o + 1) _ _ (h.set o v)).congr fun i _ => ?_
    by_cases h1 : i = o
    · subst h1
      rw [if_neg (by omega), if_pos rfl, if_pos (by simp), Nat.sub_self]; rfl
    · by_cases h2 : o + 1 ≤ i ∧ i < o + 1 + vs.length
      · rw [if_pos h2, if_pos (by simp; omega)]
        have : i - o = (i - (o + 1)) + 1 := by omega
        rw [this]; rfl
      · rw [if_neg h2, if_neg h1, if_neg (by simp; omega)]
theorem heap_setCells_far (b : Nat) : ∀ (vs : List Value) (o : Nat) (w : World) (k : Nat), k ≠ b → (w.setCells b o vs).heap[k]? = w.heap[k]? := by
  intro vs
  induction vs with
  | nil => intro o w k _; rfl
  | cons v vs ih => intro o w k hk; rw [World.setCells, ih _ _ _ hk, Below.heap_setCell _ _ _ _ hk]
theorem setCells_same (b : Nat) : ∀ (vs : List Value) (o : Nat) (w : World), (w.setCells b o vs).os = w.os ∧ (w.setCells b o vs).tape = w.tape ∧ (w.setCells b o vs).output = w.output ∧ (w.setCells b o vs).heap.size = w.heap.size := by
  intro vs
  induction vs with
  | nil => intro o w; exact ⟨rfl, rfl, rfl, rfl⟩
  | cons v vs ih =>
    intro o w
    rw [World.setCells]
    obtain ⟨h1, h2, h3, h4⟩ := ih (o + 1) (w.setCell ⟨b, o, none⟩ v)
    exact ⟨h1, h2, h3, h4.trans (by simp)⟩
theorem Chg.setCells {F : Nat → Prop} {w w' : World} (h : Chg F w w') {b : Nat} (hb : F b) (o : Nat) (vs : List Value) : Chg F w (w'.setCells b o vs) := by
  obtain ⟨h1, h2, h3, h4⟩ := setCells_same b vs o w'
  exact h.trans ⟨h1, h2, h3, by rw [h4]; exact Nat.le_refl _, fun k _ hn => heap_setCells_far b vs o w' k (fun e => hn (by rw [e]; exact hb))⟩
theorem Chg.setCells_new {F : Nat → Prop} {w w' : World} (h : Chg F w w') {b : Nat} (hb : w.heap.size ≤ b) (o : Nat) (vs : List Value) : Chg F w (w'.setCells b o vs) := by
  obtain ⟨h1, h2, h3, h4⟩ := setCells_same b vs o w'
  exact ⟨h1.trans h.os, h2.trans h.tape, h3.trans h.output, by rw [h4]; exact h.size, fun k hk hn => (heap_setCells_far b vs o w' k (by omega)).trans (h.block k hk hn)⟩
theorem Chg.drew {F : Nat → Prop} {w w' : World} (h : Chg F w w') : Chg F w w'.drew := ⟨h.os, h.tape, h.output, h.size, h.block⟩
theorem ints_at (zs : List Int) (i : Nat) : (zs.map (Value.int .i64))[i]? = (zs[i]?).map (Value.int .i64) := List.getElem?_map
theorem ints_one (zs : List Int) : ∀ v ∈ zs.map (Value.int .i64), v.oneCell' = true := fun v hv => by
  obtain ⟨z, _, rfl⟩ := List.mem_map.1 hv; rfl
/-- a new row of integers -/
theorem ownI_new (w : World) (cs : Array Value) (c : Nat) (zs : List Int) (hs : cs.size = c) (hl : zs.length ≤ c) (hm : c ≤ maxLen) (h : ∀ (i : Nat) (z : Int), zs[i]? = some z → cs[i]? = some (.int .i64 z)) :
    OwnI (w.alloc (.cells cs 3)) (.slice (some ⟨w.heap.size, 0, none⟩) zs.length c) zs := by
  refine .inr ⟨w.heap.size, 0, c, c, fun i => cs[i]?.getD undef, rfl, ?_, hl, by omega, hm, fun i z hi => ?_⟩
  · have := World.rowIs_alloc w cs 3 (fun i => cs[i]?.getD undef) (fun i hi => by simp [hi])
    rw [hs] at this; exact this
  · have h6 := h i z hi
    simp [h6]
theorem Try.info3 : (Try.prog.info? 3).map (fun i => (i.zero, i.size, i.bytes)) = some (some (.int .i64 0), 1, 8) := by kernel_rfl
/-- where the one number stands that is to be inserted -/
def One (w : World) (n : Int) (vb : Nat) : Prop := w.heap[vb]? = some (.cells #[.int .i64 n] 3 (0, 0))
theorem One.cell {w : World} {n : Int} {vb : Nat} (h : One w n vb) : ∀ (j : Nat) (v : Value), [Value.int .i64 n][j]? = some v → w.cell? ⟨vb, 0 + j, none⟩ = some v := fun j v hj => by
  rw [Nat.zero_add, cell_of_row w vb j _ _ _ h]
  simpa using hj
/-- at the end -/
theorem ins_end (v : Value) (zs : List Int) (n : Int) (vb : Nat) (w : World) (h : OwnI w v zs) (ho : One w n vb) (hvb : ¬ blk v vb) (hn : zs.length ≤ 65536) :
    Calls Try.prog 27 #[v, .int .i64 zs.length, .slice (some ⟨vb, 0, none⟩) 1 1] w fun e w' => ∃ v', e = .returned v' ∧ OwnI w' v' (zs ++ [n]) ∧ (∀ k, blk v' k → blk v k ∨ w.heap.size ≤ k) ∧ Chg (blk v) w w' := by
  have grown : ∀ (old : Nat) (F : Nat → Prop), OwnI (w.drew.alloc (.cells ((zs.map (Value.int .i64) ++ [Value.int .i64 n]).toArray ++ Builtin.zeroCells (Value.int .i64 0).cells (grownCap w (zs.length + 1) old 3 - (zs.length + 1))) 3))
      (.slice (some ⟨w.heap.size, 0, none⟩) (zs.length + 1) (grownCap w (zs.length + 1) old 3)) (zs ++ [n]) := by
    intro old F
    have hge := grownCap_ge w (zs.length + 1) old 3
    have hcm : grownCap w (zs.length + 1) old 3 ≤ maxLen := grownCap_le_maxLen w (zs.length + 1) old 3 (by unfold maxLen; omega)
    have := ownI_new w.drew ((zs.map (Value.int .i64) ++ [Value.int .i64 n]).toArray ++ Builtin.zeroCells (Value.int .i64 0).cells (grownCap w (zs.length + 1) old 3 - (zs.length + 1))) (grownCap w (zs.length + 1) old 3) (zs ++ [n])
      (by rw [Array.size_append, size_zeroCells]; simp [Value.cells]; omega) (by rw [List.length_append]; exact hge) hcm (fun i z hi => by
        have hlt : i < (zs ++ [n]).length := (List.getElem?_eq_some_iff.1 hi).1
        rw [List.length_append, List.length_singleton] at hlt
        rw [Array.getElem?_append_left (by simp; omega)]
        have : zs.map (Value.int .i64) ++ [Value.int .i64 n] = (zs ++ [n]).map (Value.int .i64) := by simp
        rw [this, List.getElem?_toArray, List.getElem?_map, hi]; rfl)
    rw [List.length_append, List.length_singleton] at this
    exact this
  rcases h with ⟨rfl, rfl⟩ | ⟨g, o, c, m, f, rfl, h1, h2, h3, h4, h5⟩
  · refine (Try.slices_Insert_int_end_grow none 0 0 vb 0 1 1 [] [.int .i64 n] w (by omega) (by omega) (by omega) (by omega) rfl rfl (fun _ => rfl) (fun a e => by cases e) ho.cell (by simp [Value.oneCell'])).mono ?_
    rintro e w' ⟨rfl, rfl⟩
    refine ⟨_, rfl, grown 0 (fun _ => False), fun k hk => .inr (by cases hk; exact Nat.le_refl _), ?_⟩
    exact (Chg.refl _ w).drew.alloc _
  · by_cases hr : zs.length + 1 ≤ c
    · refine (Try.slices_Insert_int_end_room g o zs.length c vb 0 1 1 [.int .i64 n] w (by omega) hr (by unfold maxLen at h4; omega) rfl (fun j hj => by rw [h1.cell (by omega)]; rfl) (fun j hj => h1.frozen _) ho.cell (by simp [Value.oneCell'])).mono ?_
      rintro e w' ⟨rfl, rfl⟩
      refine ⟨_, rfl, .inr ⟨g, o, c, m, _, by rw [List.length_append]; rfl, rowIs_setCells [.int .i64 n] (o + zs.length) w f h1, by rw [List.length_append]; exact hr, h3, h4, fun i z hi => ?_⟩, fun k hk => .inl hk, Chg.setCells (F := blk (.slice (some ⟨g, o, none⟩) zs.length c)) (Chg.refl _ w) (b := g) rfl _ _⟩
      by_cases hlt : i < zs.length
      · rw [List.getElem?_append_left hlt] at hi
        rw [if_neg (by simp; omega)]
        exact h5 i z hi
      · have hlt2 : i < (zs ++ [n]).length := (List.getElem?_eq_some_iff.1 hi).1
        rw [List.length_append, List.length_singleton] at hlt2
        have : i = zs.length := by omega
        subst this
        rw [List.getElem?_append_right (Nat.le_refl _), Nat.sub_self] at hi
        simp only [List.getElem?_cons_zero, Option.some.injEq] at hi
        subst hi
        rw [if_pos (by simp), Nat.sub_self]; rfl
    · refine (Try.slices_Insert_int_end_grow (some ⟨g, o, none⟩) zs.length c vb 0 1 1 (zs.map (Value.int .i64)) [.int .i64 n] w (by omega) h2 (by omega) (by omega) (by simp) rfl (fun e => by cases e) (fun a e j v hj => by
        cases e
        rw [ints_at] at hj
        obtain ⟨z, hz, rfl⟩ := Option.map_eq_some_iff.1 hj
        have hlt : j < zs.length := (List.getElem?_eq_some_iff.1 hz).1
        rw [Addr.add_lit, h1.cell (by omega), h5 j z hz]) ho.cell (by simp [Value.oneCell'])).mono ?_
      rintro e w' ⟨rfl, rfl⟩
      refine ⟨_, rfl, grown c (fun _ => False), fun k hk => .inr (by cases hk; exact Nat.le_refl _), ?_⟩
      exact (Chg.refl _ w).drew.alloc _
/-- at the front -/
theorem ins_front (v : Value) (zs : List Int) (n : Int) (vb : Nat) (w : World) (h : OwnI w v zs) (ho : One w n vb) (hvb : ¬ blk v vb) (hn : zs.length ≤ 65536) :
    Calls Try.prog 27 #[v, .int .i64 0, .slice (some ⟨vb, 0, none⟩) 1 1] w fun e w' => ∃ v', e = .returned v' ∧ OwnI w' v' (n :: zs) ∧ (∀ k, blk v' k → blk v k ∨ w.heap.size ≤ k) ∧ Chg (blk v) w w' := by
  by_cases hz : zs = []
  · subst hz
    exact ins_end v [] n vb w h ho hvb hn
  have hpos : 0 < zs.length := List.length_pos_iff.2 hz
  rcases h with ⟨rfl, rfl⟩ | ⟨g, o, c, m, f, rfl, h1, h2, h3, h4, h5⟩
  · exact absurd rfl hz
  have hcs : ∀ (j : Nat) (v : Value), (zs.map (Value.int .i64))[j]? = some v → w.cell? ⟨g, o + j, none⟩ = some v := fun j v hj => by
    rw [ints_at] at hj
    obtain ⟨z, hz, rfl⟩ := Option.map_eq_some_iff.1 hj
    have hlt : j < zs.length := (List.getElem?_eq_some_iff.1 hz).1
    rw [h1.cell (by omega), h5 j z hz]
  by_cases hr : zs.length + 1 ≤ c
  · obtain ⟨cb, hcb, hcbs, _⟩ := h1
    have h1 : w.rowIs g 3 m f := ⟨cb, hcb, hcbs, by assumption⟩
    have hshb : w.shape? g = some (3, m) := by simp [World.shape?, hcb, hcbs]
    have hsha : w.shape? vb = some (3, 1) := by have := ho; unfold One at this; simp [World.shape?, this]
    have hne : vb ≠ g := fun e => hvb (by rw [e]; rfl)
    refine (Try.slices_Insert_int_shift g o zs.length c 0 vb 0 1 1 (zs.map (Value.int .i64)) [.int .i64 n] w hpos (by omega) hr (by unfold maxLen at h4; omega) hne (by simp) rfl hcs (fun j hj => by rw [h1.cell (by omega)]; rfl) (fun j hj => h1.frozen _) ho.cell (ints_one zs) (by simp [Value.oneCell'])
      3 3 1 m hsha hshb (by omega) (frozen_of_row w vb 0 _ _ ho) (frozen_of_row w vb 1 _ _ ho)).mono ?_
    rintro e w' ⟨rfl, rfl⟩
    rw [List.drop_zero, Nat.zero_add, Nat.add_zero]
    refine ⟨_, rfl, .inr ⟨g, o, c, m, _, rfl, rowIs_setCells [.int .i64 n] o _ _ (rowIs_setCells (zs.map (Value.int .i64)) (o + 1) w.drew f h1.drew), by simpa using hr, h3, h4, fun i z hi => ?_⟩, fun k hk => .inl hk, ?_⟩
    · cases i with
      | zero =>
        simp only [List.getElem?_cons_zero, Option.some.injEq] at hi
        subst hi
        rw [if_pos (by simp)]; simp
      | succ i =>
        rw [List.getElem?_cons_succ] at hi
        have hlt : i < zs.length := (List.getElem?_eq_some_iff.1 hi).1
        rw [if_neg (by rw [List.length_singleton]; omega), if_pos (by rw [List.length_map]; omega)]
        have : o + (i + 1) - (o + 1) = i := by omega
        rw [this, List.getD_eq_getElem?_getD, List.getElem?_map, hi]; rfl
    · exact Chg.setCells (F := blk (.slice (some ⟨g, o, none⟩) zs.length c)) (Chg.setCells (F := blk (.slice (some ⟨g, o, none⟩) zs.length c)) (Chg.refl _ w).drew (b := g) rfl _ _) (b := g) rfl _ _
  · refine (Try.slices_Insert_int_grow g o zs.length c 0 vb 0 1 1 (zs.map (Value.int .i64)) [.int .i64 n] w hpos (by omega) h2 (by omega) (by omega) (by simp) rfl hcs ho.cell (ints_one zs) (by simp [Value.oneCell'])).mono ?_
    rintro e w' ⟨rfl, rfl⟩
    have hge := grownCap_ge w (zs.length + 1) c 3
    have hcm : grownCap w (zs.length + 1) c 3 ≤ maxLen := grownCap_le_maxLen w (zs.length + 1) c 3 (by unfold maxLen; omega)
    rw [List.drop_zero, Nat.zero_add]
    generalize hcc : grownCap w (zs.length + 1) c 3 = cc at *
    generalize hcells : (List.take 0 (zs.map (Value.int .i64))).toArray ++ Builtin.zeroCells (Value.int .i64 0).cells (zs.length + 1 - 0) ++ Builtin.zeroCells (Value.int .i64 0).cells (cc - (zs.length + 1)) = cells
    have hsz : cells.size = cc := by
      rw [← hcells, Array.size_append, Array.size_append, size_zeroCells, size_zeroCells]; simp [Value.cells]; omega
    have hrow := World.rowIs_alloc w cells 3 (fun i => cells[i]?.getD undef) (fun i hi => by simp [hi])
    rw [hsz] at hrow
    refine ⟨_, rfl, .inr ⟨w.heap.size, 0, cc, cc, _, rfl, rowIs_setCells (zs.map (Value.int .i64)) 1 _ _ (World.rowIs.drew (rowIs_setCells [.int .i64 n] 0 _ _ hrow.drew)), by simpa using hge, by omega, hcm, fun i z hi => ?_⟩, fun k hk => .inr (by cases hk; exact Nat.le_refl _), ?_⟩
    · cases i with
      | zero =>
        simp only [List.getElem?_cons_zero, Option.some.injEq] at hi
        subst hi
        rw [if_neg (by simp), if_pos (by simp)]; simp
      | succ i =>
        rw [List.getElem?_cons_succ] at hi
        have hlt : i < zs.length := (List.getElem?_eq_some_iff.1 hi).1
        rw [if_pos (by simp; omega)]
        have : 0 + (i + 1) - 1 = i := by omega
        rw [this, List.getD_eq_getElem?_getD, List.getElem?_map, hi]; rfl
    · exact (((Chg.refl _ w).alloc _).drew.setCells_new (b := w.heap.size) (Nat.le_refl _) _ _).drew.setCells_new (b := w.heap.size) (Nat.le_refl _) _ _
end Go.Proofs.Ythbeillgpnffmaa
