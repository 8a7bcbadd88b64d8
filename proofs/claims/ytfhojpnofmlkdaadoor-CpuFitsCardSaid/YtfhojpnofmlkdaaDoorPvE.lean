/- Boxes: the memory that a call makes and writes. -/
import Derived.Test.YtfhojpnofmlkdaaDoorPvD
import Derived.Laws.CopyRow
import Derived.Laws.CopyOwn
namespace Go.Proofs.YtfhojpnofmlkdaaDoor.Pv
open Go.RowKit
set_option linter.unusedSimpArgs false
set_option linter.unusedVariables false
set_option maxHeartbeats 1000000

/-- st: 0 is written to, 1 nobody writes it any more, 2 is gone -/
structure Box where
  sz : Nat
  cells : List PV
  st : Nat
  deriving Inhabited

def BoxRel (H : GH) (ρ : RM) (w : World) (b cap : Nat) (bx : Box) : Prop :=
  ∃ arr T, w.heap[b]? = some (.cells arr T (0, 0)) ∧ arr.size = cap * bx.sz ∧ bx.cells.length ≤ arr.size ∧
    (∀ (j : Nat) v c, arr[j]? = some v → bx.cells[j]? = some c → Rel H ρ v c) ∧
    (bx.st = 0 → ∀ o, H b o = none) ∧
    (bx.st = 1 ∨ bx.st = 3 → (∀ o, bx.cells.length ≤ o → H b o = none) ∧ ∀ (j : Nat) c, bx.cells[j]? = some c → ∃ v, arr[j]? = some v ∧ H b j = some v ∧ Rel H RM.nil v c)
/-- the blocks of B stay as they are -/
structure Bel (B : Nat → Prop) (w w' : World) : Prop where
  os : w'.os = w.os
  tape : w'.tape = w.tape
  output : w'.output = w.output
  size : w.heap.size ≤ w'.heap.size
  block : ∀ k, B k → w'.heap[k]? = w.heap[k]?
theorem Bel.refl (B : Nat → Prop) (w : World) : Bel B w w := ⟨rfl, rfl, rfl, Nat.le_refl _, fun _ _ => rfl⟩
theorem Bel.trans {B : Nat → Prop} {a b c : World} (h : Bel B a b) (k : Bel B b c) : Bel B a c :=
  ⟨k.os.trans h.os, k.tape.trans h.tape, k.output.trans h.output, Nat.le_trans h.size k.size, fun i hi => (k.block i hi).trans (h.block i hi)⟩
theorem Bel.mono {B B' : Nat → Prop} {w w' : World} (h : Bel B w w') (hB : ∀ k, B' k → B k) : Bel B' w w' := ⟨h.os, h.tape, h.output, h.size, fun k hk => h.block k (hB k hk)⟩
theorem Bel.drew {B : Nat → Prop} {a w : World} (h : Bel B a w) : Bel B a w.drew := ⟨h.os, h.tape, h.output, h.size, h.block⟩
theorem Bel.alloc {B : Nat → Prop} {a w : World} (h : Bel B a w) (hB : ∀ k, B k → k < w.heap.size) (o : Obj) : Bel B a (w.alloc o) :=
  ⟨h.os, h.tape, h.output, Nat.le_trans h.size (by rw [show (w.alloc o).heap = w.heap.push o from rfl]; simp), fun k hk => (Below.heap_alloc w o k (hB k hk)).trans (h.block k hk)⟩
theorem Below_bel {n : Nat} {B : Nat → Prop} {w w' : World} (h : Below n w w') (hB : ∀ k, B k → k < n) : Bel B w w' := ⟨h.os, h.tape, h.output, h.size, fun k hk => h.block k (hB k hk)⟩
theorem Bel.below {n : Nat} {w w' : World} (h : Bel (fun k => k < n) w w') : Below n w w' := ⟨h.os, h.tape, h.output, h.size, h.block⟩
theorem bel_setRow {B : Nat → Prop} {g : Nat} {w0 w : World} (hb : Bel B w0 w) (hBg : ¬ B g) (cs : Array Value) : Bel B w0 (w.setRow g cs) :=
  hb.trans ⟨rfl, rfl, rfl, by simp [World.setRow], fun k hk => setRow_other w g k cs (fun e => hBg (e ▸ hk))⟩
theorem base_le {B : Nat → Prop} {n m : Nat} (h : ∀ k, B k → k < n) (h' : n ≤ m) : ∀ k, B k → k < m := fun k hk => Nat.lt_of_lt_of_le (h k hk) h'


structure WR (B : Nat → Prop) (H : GH) (ρ : RM) (w : World) (hp : List Box) : Prop where
  sub : ∀ b o v, H b o = some v → w.cell? ⟨b, o, none⟩ = some v
  base : ∀ k, B k → k < w.heap.size
  box : ∀ id bx b cap, hp[id]? = some bx → bx.st ≠ 2 → ρ id = some (b, cap) → ¬ B b ∧ BoxRel H ρ w b cap bx
  inj : ∀ id id' bx bx' b c c', hp[id]? = some bx → hp[id']? = some bx' → bx.st ≠ 2 → bx'.st ≠ 2 → ρ id = some (b, c) → ρ id' = some (b, c') → id = id'

/-- what a step does to the world and to what is known of it -/
structure Step (B : Nat → Prop) (H : GH) (ρ : RM) (w : World) (H' : GH) (ρ' : RM) (w' : World) : Prop where
  hH : H.le H'
  hρ : ρ.le ρ'
  old : ∀ b o v, B b → H' b o = some v → H b o = some v
  bel : Bel B w w'
theorem Step.refl (B : Nat → Prop) (H : GH) (ρ : RM) (w : World) : Step B H ρ w H ρ w := ⟨.refl _, .refl _, fun _ _ _ _ h => h, .refl _ _⟩
theorem Step.trans {B : Nat → Prop} {H H' H'' : GH} {ρ ρ' ρ'' : RM} {w w' w'' : World} (h : Step B H ρ w H' ρ' w') (k : Step B H' ρ' w' H'' ρ'' w'') : Step B H ρ w H'' ρ'' w'' :=
  ⟨h.hH.trans k.hH, h.hρ.trans k.hρ, fun b o v hb hv => h.old b o v hb (k.old b o v hb hv), h.bel.trans k.bel⟩

theorem cell_lt {w : World} {b o : Nat} {v : Value} (h : w.cell? ⟨b, o, none⟩ = some v) : b < w.heap.size := by
  unfold World.cell? at h
  split at h
  · rename_i hb; exact (Array.getElem?_eq_some_iff.1 hb).1
  · cases h
theorem heap_cell {w : World} {b o : Nat} {arr : Array Value} {T : TypeId} {fz : Nat × Nat} (h : w.heap[b]? = some (.cells arr T fz)) : w.cell? ⟨b, o, none⟩ = arr[o]? := by simp [World.cell?, h]
theorem BoxRel.lt {H : GH} {ρ : RM} {w : World} {b cap : Nat} {bx : Box} (h : BoxRel H ρ w b cap bx) : b < w.heap.size := by
  obtain ⟨arr, T, h1, _⟩ := h; exact (Array.getElem?_eq_some_iff.1 h1).1
/-- a box stays what it is while its block stays and nothing in it becomes known -/
theorem BoxRel.keep {H H' : GH} {ρ ρ' : RM} {w w' : World} {b cap : Nat} {bx : Box} (h : BoxRel H ρ w b cap bx) (hb : w'.heap[b]? = w.heap[b]?) (hH : H.le H') (hρ : ρ.le ρ') (hn : ∀ o v, H' b o = some v → H b o = some v) : BoxRel H' ρ' w' b cap bx := by
  obtain ⟨arr, T, h1, h2, h3, h4, h5, h6⟩ := h
  have nn : ∀ o, H b o = none → H' b o = none := fun o ho => by
    cases hv : H' b o with
    | none => rfl
    | some v => rw [hn o v hv] at ho; cases ho
  refine ⟨arr, T, hb.trans h1, h2, h3, fun j v c hv hc => (h4 j v c hv hc).mono hH hρ, fun e o => nn o (h5 e o), fun e => ⟨fun o ho => nn o ((h6 e).1 o ho), fun j c hc => ?_⟩⟩
  obtain ⟨v, k1, k2, k3⟩ := (h6 e).2 j c hc
  exact ⟨v, k1, hH _ _ _ k2, k3.mono hH (.refl _)⟩
/-- what a step that writes no block of the boxes leaves of them -/
theorem WR.keep {B : Nat → Prop} {H H' : GH} {ρ : RM} {w w' : World} {hp : List Box} (h : WR B H ρ w hp) (hb : Below w.heap.size w w') (hH : H.le H') (hn : ∀ b o v, b < w.heap.size → H' b o = some v → H b o = some v) (hs : ∀ b o v, H' b o = some v → w'.cell? ⟨b, o, none⟩ = some v) : WR B H' ρ w' hp :=
  ⟨hs, base_le h.base hb.size, fun id bx b cap h1 h2 h3 => by
    obtain ⟨hB, hbx⟩ := h.box id bx b cap h1 h2 h3
    exact ⟨hB, hbx.keep (hb.block b hbx.lt) hH (.refl _) (fun o v => hn b o v hbx.lt)⟩, h.inj⟩
theorem sub_below {H : GH} {w w' : World} (hs : ∀ b o v, H b o = some v → w.cell? ⟨b, o, none⟩ = some v) (hb : Below w.heap.size w w') : ∀ b o v, H b o = some v → w'.cell? ⟨b, o, none⟩ = some v :=
  fun b o v h => (hb.cell (p := ⟨b, o, none⟩) (cell_lt (hs b o v h))).trans (hs b o v h)
/-- one place more -/
def RM.put (ρ : RM) (id : Nat) (x : Nat × Nat) : RM := fun i => if i = id then some x else ρ i
theorem RM.put_le {ρ : RM} {id : Nat} {x : Nat × Nat} (h : ρ id = none) : ρ.le (ρ.put id x) := fun i y hi => by
  unfold RM.put; split
  · rename_i e; subst e; rw [h] at hi; cases hi
  · exact hi
theorem RM.put_same {ρ : RM} {id : Nat} {x : Nat × Nat} : ρ.put id x id = some x := by simp [RM.put]
/-- a new block for the box id -/
theorem WR.alloc {B : Nat → Prop} {H : GH} {ρ : RM} {w : World} {hp : List Box} {id cap : Nat} {bx : Box} {arr : Array Value} {T : TypeId} (h : WR B H ρ w hp) (hi : hp[id]? = some bx) (hst : bx.st = 0) (hρ : ρ id = none) (h2 : arr.size = cap * bx.sz) (h3 : bx.cells.length ≤ arr.size)
    (h4 : ∀ (j : Nat) v c, arr[j]? = some v → bx.cells[j]? = some c → Rel H ρ v c) : WR B H (ρ.put id (w.heap.size, cap)) (w.alloc (.cells arr T)) hp := by
  have hle := RM.put_le (x := (w.heap.size, cap)) hρ
  have hbel : Below w.heap.size w (w.alloc (.cells arr T)) := (Below.refl _ _).alloc (Nat.le_refl _) _
  have hno : ∀ o, H w.heap.size o = none := fun o => by
    cases hv : H w.heap.size o with
    | none => rfl
    | some v => exact absurd (cell_lt (h.sub _ _ _ hv)) (Nat.lt_irrefl _)
  have hlt : ∀ id' bx' b c, hp[id']? = some bx' → bx'.st ≠ 2 → ρ id' = some (b, c) → b < w.heap.size := fun id' bx' b c a1 a2 a3 => (h.box _ _ _ _ a1 a2 a3).2.lt
  refine ⟨sub_below h.sub hbel, base_le h.base hbel.size, fun id' bx' b c a1 a2 a3 => ?_, fun i j bi bj b c c' a1 a2 a3 a4 a5 a6 => ?_⟩
  · unfold RM.put at a3
    split at a3
    · rename_i e; subst e
      cases a3
      rw [hi] at a1; cases a1
      refine ⟨fun hk => Nat.lt_irrefl _ (h.base _ hk), arr, T, by show (w.heap.push _)[w.heap.size]? = _; simp, h2, h3, fun j v c hv hc => (h4 j v c hv hc).mono (.refl _) hle, fun _ => hno, fun e => by rw [hst] at e; rcases e with e | e <;> cases e⟩
    · obtain ⟨hB, hbx⟩ := h.box _ _ _ _ a1 a2 a3
      exact ⟨hB, hbx.keep (hbel.block b hbx.lt) (.refl _) hle (fun o v hv => hv)⟩
  · unfold RM.put at a5 a6
    split at a5 <;> split at a6
    · rename_i e1 e2; exact e1.trans e2.symm
    · cases a5; exact absurd (hlt _ _ _ _ a2 a4 a6) (Nat.lt_irrefl _)
    · cases a6; exact absurd (hlt _ _ _ _ a1 a3 a5) (Nat.lt_irrefl _)
    · exact h.inj i j bi bj b c c' a1 a2 a3 a4 a5 a6
/-- a box more in the plain memory, nowhere yet -/
theorem WR.more {B : Nat → Prop} {H : GH} {ρ : RM} {w : World} {hp : List Box} (h : WR B H ρ w hp) (bx : Box) (hρ : ρ hp.length = none) : WR B H ρ w (hp ++ [bx]) := by
  have key : ∀ id b' b c, (hp ++ [bx])[id]? = some b' → ρ id = some (b, c) → hp[id]? = some b' := fun id b' b c h1 h2 => by
    by_cases hl : id < hp.length
    · rw [List.getElem?_append_left hl] at h1; exact h1
    · by_cases he : id = hp.length
      · subst he; rw [hρ] at h2; cases h2
      · rw [List.getElem?_eq_none (by simp; omega)] at h1; cases h1
  exact ⟨h.sub, h.base, fun id b' b c a1 a2 a3 => h.box id b' b c (key _ _ _ _ a1 a3) a2 a3, fun i j bi bj b c c' a1 a2 a3 a4 a5 a6 => h.inj i j bi bj b c c' (key _ _ _ _ a1 a5) (key _ _ _ _ a2 a6) a3 a4 a5 a6⟩

/-- may the value lie in one cell? -/
def PV.atom : PV → Bool
  | .any | .agg _ | .tup _ => false
  | _ => true
theorem Rel.one {H : GH} {ρ : RM} {v : Value} {p : PV} (h : Rel H ρ v p) (ha : p.atom = true) : v.oneCell' = true := by
  cases h
  case own ht => obtain ⟨a, l, c, rfl, _⟩ := ht; rfl
  all_goals first | rfl | cases ha

/-- a load -/
def pload (P : Program) (hp : List Box) (T : TypeId) (x : PV) : Option PV :=
  match x with
  | .cptr cs => mk P T cs
  | .ptr id off =>
    match hp[id]? with
    | some bx => if bx.st ≤ 1 then mk P T (bx.cells.drop off) else none
    | none => none
  | _ => none
theorem loadVar_run {P : Program} {T : TypeId} {b o : Nat} {cs : List PV} {us : List Value} {r : PV} {H : GH} {ρ : RM} {w : World} (h : mk P T cs = some r) (hl : us.length = cs.length) (hr : ∀ (i : Nat) v c, us[i]? = some v → cs[i]? = some c → Rel H ρ v c) (hc : ∀ (j : Nat) v, us[j]? = some v → w.cell? ⟨b, o + j, none⟩ = some v) :
    ∃ z, (loadVar T ⟨b, o, none⟩).run P w = .ok z w ∧ Rel H ρ z r := by
  obtain ⟨n, t, h1, h2, h3, h4⟩ := mk_sound h hl hr
  cases t
  · obtain ⟨u, hu, hx⟩ := h4 rfl
    refine ⟨u, ?_, hx⟩
    have := hc 0 u hu
    simp [loadVar, r_agg h2, Sem.run_bind, load, Sem.run, show w.cell? ⟨b, o, none⟩ = some u from this]
  · obtain ⟨hn, hx⟩ := h3 rfl
    refine ⟨_, ?_, hx⟩
    have e := run_loadCells_list (P := P) (w := w) ⟨b, o, none⟩ (us.take n) (fun j v hj => by
      rw [add_addr]
      rw [List.getElem?_take] at hj
      split at hj
      · exact hc j v hj
      · cases hj)
    rw [show (us.take n).length = n by simp; omega] at e
    simp [loadVar, r_agg h2, r_size h1, Sem.run_bind, e]
theorem pload_sound {P : Program} {B : Nat → Prop} {hp : List Box} {T : TypeId} {x r : PV} {u : Value} {H : GH} {ρ : RM} {w : World} (hw : WR B H ρ w hp) (h : pload P hp T x = some r) (hx : Rel H ρ u x) : ∃ z, (Instr.loadAt T u).run P w = .ok z w ∧ Rel H ρ z r := by
  unfold pload at h
  split at h
  · rename_i cs
    cases hx with | cptr b o _ g hH hr =>
    obtain ⟨z, h1, h2⟩ := loadVar_run (P := P) (T := T) (b := b) (o := o) (us := (List.range cs.length).map g) (H := H) (ρ := ρ) (w := w) h (by simp) (fun i v c hv hc => by
      rw [List.getElem?_map] at hv
      obtain ⟨k, hk, rfl⟩ := Option.map_eq_some_iff.1 hv
      have := List.getElem?_eq_some_iff.1 hk
      obtain ⟨_, hk⟩ := this
      simp at hk; subst hk
      exact (hr _ c hc).up) (fun j v hv => by
      rw [List.getElem?_map] at hv
      obtain ⟨k, hk, rfl⟩ := Option.map_eq_some_iff.1 hv
      obtain ⟨hl, hk⟩ := List.getElem?_eq_some_iff.1 hk
      simp at hk hl; subst hk
      exact hw.sub _ _ _ (hH _ hl))
    exact ⟨z, by simp [Instr.loadAt, Instr.sureAddr, h1], h2⟩
  · rename_i id off
    cases hx with | ptr _ _ b cap hρ =>
    split at h
    · rename_i bx hbx
      split at h
      · rename_i hst
        obtain ⟨_, arr, E, h1, h2, h3, h4, _, _⟩ := hw.box _ _ _ _ hbx (by omega) hρ
        obtain ⟨z, k1, k2⟩ := loadVar_run (P := P) (T := T) (b := b) (o := off) (us := (arr.toList.take bx.cells.length).drop off) (H := H) (ρ := ρ) (w := w) h (by simp; omega) (fun i v c hv hc => by
          rw [List.getElem?_drop] at hv hc
          rw [List.getElem?_take] at hv
          split at hv
          · rw [Array.getElem?_toList] at hv; exact h4 _ v c hv hc
          · cases hv) (fun j v hv => by
          rw [List.getElem?_drop, List.getElem?_take] at hv
          split at hv
          · rw [Array.getElem?_toList] at hv; rw [heap_cell h1]; exact hv
          · cases hv)
        exact ⟨z, by simp [Instr.loadAt, Instr.sureAddr, k1], k2⟩
      · cases h
    · cases h
  · cases h

/-- a store -/
def pstore (P : Program) (hp : List Box) (T : TypeId) (p x : PV) : Option (List Box) :=
  match p, x.cells?, szT P T with
  | .ptr id off, some xs, some n =>
    match hp[id]? with
    | some bx => if bx.st = 0 ∧ xs.length = n ∧ off + n ≤ bx.cells.length ∧ xs.all PV.atom = true then some (hp.set id ⟨bx.sz, bx.cells.take off ++ xs ++ bx.cells.drop (off + n), 0⟩) else none
    | none => none
  | _, _, _ => none
theorem ext_set {α : Type} {l : List α} {i j : Nat} {x y : α} (h : (l.set i x)[j]? = some y) : (j = i ∧ y = x ∧ i < l.length) ∨ (j ≠ i ∧ l[j]? = some y) := by
  rw [List.getElem?_set] at h
  split at h
  · rename_i e
    split at h
    · cases h; exact .inl ⟨e.symm, rfl, by omega⟩
    · cases h
  · rename_i e; exact .inr ⟨fun x => e x.symm, h⟩
/-- a block of a live box is written anew -/
theorem WR.setRow {B : Nat → Prop} {H : GH} {ρ : RM} {w : World} {hp : List Box} {id b cap : Nat} {bx : Box} {cs : List PV} {arr arr' : Array Value} {T : TypeId} (hw : WR B H ρ w hp) (hbx : hp[id]? = some bx) (hst : bx.st = 0) (hρ : ρ id = some (b, cap)) (ha : w.heap[b]? = some (.cells arr T (0, 0)))
    (h2 : arr'.size = cap * bx.sz) (h3 : cs.length ≤ arr'.size) (h4 : ∀ (j : Nat) v c, arr'[j]? = some v → cs[j]? = some c → Rel H ρ v c) : WR B H ρ (w.setRow b arr') (hp.set id ⟨bx.sz, cs, 0⟩) := by
  obtain ⟨hB, _, _, _, _, _, _, hn, _⟩ := hw.box _ _ _ _ hbx (by omega) hρ
  have hoth : ∀ k, k ≠ b → (w.setRow b arr').heap[k]? = w.heap[k]? := fun k hk => setRow_other w b k arr' hk
  refine ⟨fun c o v hv => ?_, by rw [setRow_size]; exact hw.base, fun i bi c cap' a1 a2 a3 => ?_, fun i j bi bj c c1 c2 a1 a2 a3 a4 a5 a6 => ?_⟩
  · have hc : c ≠ b := by rintro rfl; rw [hn hst o] at hv; cases hv
    rw [cell_setRow_other w b arr' ⟨c, o, none⟩ hc]
    exact hw.sub _ _ _ hv
  · rcases ext_set a1 with ⟨rfl, rfl, _⟩ | ⟨hne, a1⟩
    · rw [hρ] at a3; cases a3
      exact ⟨hB, arr', T, setRow_heap w _ arr arr' T _ ha, h2, h3, h4, fun _ => hn hst, fun e => by rcases e with e | e <;> cases e⟩
    · obtain ⟨hB', hbx'⟩ := hw.box _ _ _ _ a1 a2 a3
      have hc : c ≠ b := by rintro rfl; exact hne (hw.inj _ _ _ _ _ _ _ a1 hbx a2 (by omega) a3 hρ)
      exact ⟨hB', hbx'.keep (hoth c hc) (.refl _) (.refl _) (fun _ _ h => h)⟩
  · have ex : ∀ (k : Nat) (bk : Box), (hp.set id ⟨bx.sz, cs, 0⟩)[k]? = some bk → bk.st ≠ 2 → ∃ bk' : Box, hp[k]? = some bk' ∧ bk'.st ≠ 2 := fun k bk e1 e2 => by
      rcases ext_set e1 with ⟨rfl, rfl, _⟩ | ⟨_, e1⟩
      · exact ⟨bx, hbx, by omega⟩
      · exact ⟨bk, e1, e2⟩
    obtain ⟨_, e1, e2⟩ := ex _ _ a1 a3
    obtain ⟨_, e3, e4⟩ := ex _ _ a2 a4
    exact hw.inj _ _ _ _ _ _ _ e1 e3 e2 e4 a5 a6
theorem pstore_sound {P : Program} {B : Nat → Prop} {hp hp' : List Box} {T : TypeId} {p x : PV} {u v : Value} {H : GH} {ρ : RM} {w : World} (hw : WR B H ρ w hp) (h : pstore P hp T p x = some hp') (hu : Rel H ρ u p) (hv : Rel H ρ v x) :
    ∃ w', (Instr.storeAt T u v).run P w = .ok () w' ∧ WR B H ρ w' hp' ∧ Step B H ρ w H ρ w' := by
  unfold pstore at h
  split at h
  · rename_i id off xs n hxs hn
    split at h
    · rename_i bx hbx
      split at h
      · rename_i hc
        obtain ⟨hst, hl, hle, hat⟩ := hc
        cases h
        cases hu with | ptr _ _ b cap hρ =>
        obtain ⟨hB, arr, E, h1, h2, h3, h4, h5, _⟩ := hw.box _ _ _ _ hbx (by omega) hρ
        obtain ⟨k1, k2⟩ := Rel.cells hv hxs
        have hone : ∀ y ∈ v.cells.toList, y.oneCell' = true := fun y hy => by
          obtain ⟨i, hi⟩ := List.mem_iff_getElem?.1 hy
          rw [Array.getElem?_toList] at hi
          obtain ⟨c, hc⟩ : ∃ c, xs[i]? = some c := ⟨_, List.getElem?_eq_getElem (by have := (Array.getElem?_eq_some_iff.1 hi).1; omega)⟩
          exact (k2 i y c hi hc).one (List.all_eq_true.1 hat c (List.mem_of_getElem? hc))
        have e := run_storeCells_at (P := P) b off E v.cells.toList 0 arr w h1 (by simp; omega) hone
        refine ⟨_, by simp only [Instr.storeAt, Instr.sureAddr, storeVar, Sem.run_bind, r_size hn, Sem.run_pure, Result.andThen_ok]; rw [if_neg (by simp; omega)]; exact e, ?_, ?_⟩
        · refine hw.setRow hbx hst hρ h1 ?_ ?_ ?_
          · simp; omega
          · simp; omega
          · intro j y c hy hc
            simp only [Nat.add_zero, Array.length_toList, List.getElem?_toArray] at hy
            by_cases q1 : j < off
            · rw [List.append_assoc, List.getElem?_append_left (by simp; omega), List.getElem?_take_of_lt q1] at hy hc
              rw [Array.getElem?_toList] at hy
              exact h4 _ _ _ hy hc
            · by_cases q2 : j < off + n
              · rw [List.append_assoc, List.getElem?_append_right (by simp; omega), List.getElem?_append_left (by simp; omega)] at hy hc
                rw [List.length_take, Nat.min_eq_left (by simp; omega), Array.getElem?_toList] at hy
                rw [List.length_take, Nat.min_eq_left (by omega)] at hc
                exact k2 _ _ _ hy hc
              · rw [List.getElem?_append_right (by simp; omega), List.getElem?_drop] at hy hc
                rw [show off + v.cells.size + (j - (List.take off arr.toList ++ v.cells.toList).length) = j by simp; omega, Array.getElem?_toList] at hy
                rw [show off + n + (j - (List.take off bx.cells ++ xs).length) = j by simp; omega] at hc
                exact h4 _ _ _ hy hc
        · exact ⟨.refl _, .refl _, fun _ _ _ _ h => h, bel_setRow (.refl _ _) hB _⟩
      · cases h
    · cases h
  · cases h
end Go.Proofs.YtfhojpnofmlkdaaDoor.Pv
