/- Contracts: the reference's Invert. -/
import Derived.Test.YtalkhkhnpplofaaDoorRows
import Derived.WalkKit
import Derived.ProofKit
import Derived.OpenShut
import Derived.Below
import Derived.Lib.Hide
import Derived.Outline
import Derived.WalkLawsBesides
import Derived.WalkSpells
import Derived.WalkSmall
import Derived.IntWalk
import Derived.Deep.QuietTactic
import Derived.BigQuiet
import Derived.Deep.RegionHeld3
import Derived.StillTailTactics
import Derived.Handy
import Derived.Deep.Cut
import Derived.Deep.OwnRows
import Derived.Deep.RegionWith
import Derived.Test.YtalkhkhnpplofaaDoorCopy
namespace Go.Proofs.YtalkhkhnpplofaaDoor
open Go.ChangeShapes Go.WideShapes Go.ChangeAt Go.RowKit
set_option linter.unusedSimpArgs false
set_option linter.unusedVariables false

theorem wpList_appI {ops : Array Oper} {rest : List Oper} {o : Oper} {ac : Act} {w : World} {Q : Exit → Act → World → Prop} (hgd : o.guard = none) (s x : Operand) (ho : o.op = .call { callee := .builtin .append, args := #[s, x], argTypes := #[22, 22] })
    (B : Nat) (v : Value) (xs : List Ins) (hv : ac.eval s = v) (hown : OwnI w B v xs) (a : Option Addr) (c n : Nat) (ys : List Ins) (hxx : ac.eval x = .slice a n c) (hn : ys.length = n) (hs : SliceC w a ys) (hx : xs.length ≤ 65536) (hy : ys.length ≤ 65536) (hB : B ≤ w.heap.size)
    (h : ∀ aa cc w', OwnI w' B (.slice aa (xs ++ ys).length cc) (xs ++ ys) → w.grownBy w' v.ownBlock → wpList Tryd.prog ops Q rest (ac.put o.dst (.slice aa (xs ++ ys).length cc)) w') : wpList Tryd.prog ops Q (o :: rest) ac w :=
  wpList_plain hgd fun _ hK => wp_appI s x ho B v xs hv hown a c n ys hxx hn hs hx hy hB fun v' w' h2 h3 => by
    obtain ⟨aa, cc, rfl, _⟩ := h2.read
    exact hK _ _ (h aa cc w' h2 h3)
theorem slice1 (w : World) (x : Ins) : SliceC (w.alloc (.cells #[.int .u8 x.k, .int .i64 x.a, .int .i64 x.b, .int .i64 x.c, .int .i64 x.d] 39)) (some ⟨w.heap.size, 0, none⟩) [x] := fun _ => by
  refine ⟨w.heap.size, 0, rfl, by simp, fun i u hi => ?_⟩
  have c : ∀ j, (w.alloc (.cells #[.int .u8 x.k, .int .i64 x.a, .int .i64 x.b, .int .i64 x.c, .int .i64 x.d] 39)).cell? ⟨w.heap.size, j, none⟩ = (#[Value.int .u8 x.k, .int .i64 x.a, .int .i64 x.b, .int .i64 x.c, .int .i64 x.d] : Array Value)[j]? := fun j => World.cell?_alloc_at _ _ _ _ rfl
  have hi1 : i = 0 := by have := lt_len hi; simp at this; omega
  subst hi1
  cases hi
  exact ⟨(c 0).trans rfl, (c 1).trans rfl, (c 2).trans rfl, (c 3).trans rfl, (c 4).trans rfl⟩
/-- what the loop of the reference's Invert keeps -/
structure RI (w : World) (n : Nat) (a : Option Addr) (cap : Nat) (m s : Int) (wr : World) (v : Value) (L : List Ins) : Prop where
  img : wr.cell? ⟨w.heap.size, 0, none⟩ = some (.slice a n cap)
  res : wr.cell? ⟨w.heap.size + 1, 0, none⟩ = some (.slice none 0 0) ∧ wr.cell? ⟨w.heap.size + 1, 1, none⟩ = some (.int .i64 0) ∧ wr.cell? ⟨w.heap.size + 1, 2, none⟩ = some (.int .i64 0)
  resf : wr.frozen? ⟨w.heap.size + 1, 0, none⟩ = false ∧ wr.frozen? ⟨w.heap.size + 1, 1, none⟩ = false ∧ wr.frozen? ⟨w.heap.size + 1, 2, none⟩ = false
  out : wr.cell? ⟨w.heap.size + 1 + 1, 0, none⟩ = some v ∧ wr.cell? ⟨w.heap.size + 1 + 1, 1, none⟩ = some (.int .i64 m) ∧ wr.cell? ⟨w.heap.size + 1 + 1, 2, none⟩ = some (.int .i64 s)
  outf : wr.frozen? ⟨w.heap.size + 1 + 1, 0, none⟩ = false
  row : OwnI wr (w.heap.size + 1 + 1 + 1) v L
  bel : Below w.heap.size w wr
theorem RI.below {w : World} {n : Nat} {a : Option Addr} {cap : Nat} {m s : Int} {wr w' : World} {v : Value} {L : List Ins} (h : RI w n a cap m s wr v L) (hb : Below wr.heap.size wr w') : RI w n a cap m s w' v L :=
  ⟨cell_on hb h.img, ⟨cell_on hb h.res.1, cell_on hb h.res.2.1, cell_on hb h.res.2.2⟩, ⟨frozen_on hb h.res.1 h.resf.1, frozen_on hb h.res.2.1 h.resf.2.1, frozen_on hb h.res.2.2 h.resf.2.2⟩,
   ⟨cell_on hb h.out.1, cell_on hb h.out.2.1, cell_on hb h.out.2.2⟩, frozen_on hb h.out.1 h.outf, own_keep h.row (fun k hk => hb.block k (World.ownsRow.lt h.row k hk).2), below_on h.bel hb⟩
theorem RI.grow {w : World} {n : Nat} {a : Option Addr} {cap : Nat} {m s : Int} {wr w' : World} {v v' : Value} {L L' : List Ins} (h : RI w n a cap m s wr v L) (ho : OwnI w' (w.heap.size + 1 + 1 + 1) v' L') (hg : wr.grownBy w' v.ownBlock) :
    (w'.cell? ⟨w.heap.size + 1 + 1, 0, none⟩ = some v ∧ w'.frozen? ⟨w.heap.size + 1 + 1, 0, none⟩ = false) ∧ RI w n a cap m s (w'.setCell ⟨w.heap.size + 1 + 1, 0, none⟩ v') v' L' := by
  have hl := World.block_lt_of_cell? _ _ h.out.1
  simp only at hl
  have hk : ∀ b, b < w.heap.size + 1 + 1 + 1 → w'.heap[b]? = wr.heap[b]? := fun b hb => hg.block b (by omega) (fun e => by have := (World.ownsRow.lt h.row b e.symm).1; omega)
  have hbel : Below w.heap.size w w' := h.bel.grown hg h.bel.size (fun j hj => by have := (World.ownsRow.lt h.row j hj).1; omega)
  have hv' : ∀ j, v'.ownBlock = some j → w.heap.size + 1 + 1 < j := fun j hj => by have := (World.ownsRow.lt ho j hj).1; omega
  have g1 := far_cell (hk _ (by omega)) h.out.1
  have g2 := far_froz (hk _ (by omega)) h.outf
  have sp : ∀ {b o : Nat} {u : Value}, b ≠ w.heap.size + 1 + 1 → b < w.heap.size + 1 + 1 + 1 → wr.cell? ⟨b, o, none⟩ = some u → (w'.setCell ⟨w.heap.size + 1 + 1, 0, none⟩ v').cell? ⟨b, o, none⟩ = some u := fun hb hb2 hc => set_past hb (far_cell (hk _ hb2) hc)
  refine ⟨⟨g1, g2⟩, sp (by omega) (by omega) h.img, ⟨sp (by omega) (by omega) h.res.1, sp (by omega) (by omega) h.res.2.1, sp (by omega) (by omega) h.res.2.2⟩, ?_, ⟨World.cell?_setCell_same _ _ _ g1, ?_, ?_⟩, by rw [World.frozen?_setCell]; exact g2, own_keep ho (fun j hj => Below.heap_setCell _ _ _ _ (by have := hv' j hj; show j ≠ w.heap.size + 1 + 1; omega)), hbel.setCell (p := ⟨w.heap.size + 1 + 1, 0, none⟩) (by show w.heap.size ≤ w.heap.size + 1 + 1; omega) _⟩
  · simp only [World.frozen?_setCell]
    exact ⟨far_froz (hk _ (by omega)) h.resf.1, far_froz (hk _ (by omega)) h.resf.2.1, far_froz (hk _ (by omega)) h.resf.2.2⟩
  · exact (World.cell?_setCell_other _ _ _ _ (by simp)).trans (far_cell (hk _ (by omega)) h.out.2.1)
  · exact (World.cell?_setCell_other _ _ _ _ (by simp)).trans (far_cell (hk _ (by omega)) h.out.2.2)
theorem take_inv {l : List Ins} {k r : Nat} {x : Ins} (hx : l[r]? = some x) (hr : l.length = r + k + 1) : (invL l).take (k + 1) = (invL l).take k ++ [invI l x] := by
  have h := invL_at hx
  rw [show l.length - 1 - r = k by omega] at h
  rw [List.take_add_one, h]; rfl
/-- the five cells of a box -/
def B5 (w : World) (q : Nat) (x : Ins) : Prop := (w.cell? ⟨q, 0, none⟩ = some (.int .u8 x.k) ∧ w.cell? ⟨q, 1, none⟩ = some (.int .i64 x.a) ∧ w.cell? ⟨q, 2, none⟩ = some (.int .i64 x.b) ∧ w.cell? ⟨q, 3, none⟩ = some (.int .i64 x.c) ∧ w.cell? ⟨q, 4, none⟩ = some (.int .i64 x.d)) ∧ ∀ j, j < 5 → w.frozen? ⟨q, j, none⟩ = false
theorem B5.on {w w' : World} {q : Nat} {x : Ins} (h : B5 w q x) (hb : Below w.heap.size w w') : B5 w' q x := by
  obtain ⟨⟨h0, h1, h2, h3, h4⟩, hf⟩ := h
  have hl := World.block_lt_of_cell? _ _ h0
  exact ⟨⟨cell_on hb h0, cell_on hb h1, cell_on hb h2, cell_on hb h3, cell_on hb h4⟩, fun j hj => (hb.frozen (p := ⟨q, j, none⟩) hl).trans (hf j hj)⟩
theorem B5.set0 {w : World} {q : Nat} {x : Ins} (h : B5 w q x) (z : Int) : B5 (w.setCell ⟨q, 0, none⟩ (.int .u8 z)) q ⟨z, x.a, x.b, x.c, x.d⟩ := by
  obtain ⟨⟨h0, h1, h2, h3, h4⟩, hf⟩ := h
  have o : ∀ {i : Nat} {u : Value}, i ≠ 0 → w.cell? ⟨q, i, none⟩ = some u → (w.setCell ⟨q, 0, none⟩ (.int .u8 z)).cell? ⟨q, i, none⟩ = some u := fun hi h => (World.cell?_setCell_other _ _ _ _ (by simp [hi, Ne.symm hi])).trans h
  exact ⟨⟨World.cell?_setCell_same _ _ _ h0, o (by omega) h1, o (by omega) h2, o (by omega) h3, o (by omega) h4⟩, fun j hj => by rw [World.frozen?_setCell]; exact hf j hj⟩
theorem B5.set1 {w : World} {q : Nat} {x : Ins} (h : B5 w q x) (z : Int) : B5 (w.setCell ⟨q, 1, none⟩ (.int .i64 z)) q ⟨x.k, z, x.b, x.c, x.d⟩ := by
  obtain ⟨⟨h0, h1, h2, h3, h4⟩, hf⟩ := h
  have o : ∀ {i : Nat} {u : Value}, i ≠ 1 → w.cell? ⟨q, i, none⟩ = some u → (w.setCell ⟨q, 1, none⟩ (.int .i64 z)).cell? ⟨q, i, none⟩ = some u := fun hi h => (World.cell?_setCell_other _ _ _ _ (by simp [hi, Ne.symm hi])).trans h
  exact ⟨⟨o (by omega) h0, World.cell?_setCell_same _ _ _ h1, o (by omega) h2, o (by omega) h3, o (by omega) h4⟩, fun j hj => by rw [World.frozen?_setCell]; exact hf j hj⟩
theorem B5.set2 {w : World} {q : Nat} {x : Ins} (h : B5 w q x) (z : Int) : B5 (w.setCell ⟨q, 2, none⟩ (.int .i64 z)) q ⟨x.k, x.a, z, x.c, x.d⟩ := by
  obtain ⟨⟨h0, h1, h2, h3, h4⟩, hf⟩ := h
  have o : ∀ {i : Nat} {u : Value}, i ≠ 2 → w.cell? ⟨q, i, none⟩ = some u → (w.setCell ⟨q, 2, none⟩ (.int .i64 z)).cell? ⟨q, i, none⟩ = some u := fun hi h => (World.cell?_setCell_other _ _ _ _ (by simp [hi, Ne.symm hi])).trans h
  exact ⟨⟨o (by omega) h0, o (by omega) h1, World.cell?_setCell_same _ _ _ h2, o (by omega) h3, o (by omega) h4⟩, fun j hj => by rw [World.frozen?_setCell]; exact hf j hj⟩
theorem B5.new (w : World) (x : Ins) : B5 (w.alloc (.cells #[.int .u8 x.k, .int .i64 x.a, .int .i64 x.b, .int .i64 x.c, .int .i64 x.d] 39)) w.heap.size x :=
  ⟨⟨by rw [World.cell?_alloc_at _ _ _ _ rfl]; rfl, by rw [World.cell?_alloc_at _ _ _ _ rfl]; rfl, by rw [World.cell?_alloc_at _ _ _ _ rfl]; rfl, by rw [World.cell?_alloc_at _ _ _ _ rfl]; rfl, by rw [World.cell?_alloc_at _ _ _ _ rfl]; rfl⟩, fun j _ => by rw [World.frozen?_alloc_at _ _ _ _ rfl]⟩
/-- how an opcode and its inverse lie to their targets -/
theorem inv_class (k : Int) : (k = 30 ∧ invO k = 30) ∨ (k = 31 ∧ invO k = 31) ∨ (tg k = 0 ∧ k ≠ 30 ∧ k ≠ 31 ∧ (invO k = 22 ∨ invO k = 25 ∨ invO k = 32 ∨ invO k = 33)) ∨ (tg k = 1 ∧ (invO k = 23 ∨ invO k = 24 ∨ invO k = 26 ∨ invO k = 27)) ∨
    (tg k = -1 ∧ k ≠ 30 ∧ k ≠ 31 ∧ invO k ≠ 30 ∧ invO k ≠ 31 ∧ tg (invO k) = -1) := by
  by_cases h30 : k = 30
  · subst h30; exact .inl ⟨rfl, rfl⟩
  by_cases h31 : k = 31
  · subst h31; exact .inr (.inl ⟨rfl, rfl⟩)
  by_cases hA : k = 22 ∨ k = 25 ∨ k = 32 ∨ k = 33
  · rcases hA with rfl | rfl | rfl | rfl <;> exact .inr (.inr (.inl ⟨rfl, by decide, by decide, by decide⟩))
  by_cases hB : k = 23 ∨ k = 24 ∨ k = 26 ∨ k = 27
  · rcases hB with rfl | rfl | rfl | rfl <;> exact .inr (.inr (.inr (.inl ⟨rfl, by decide⟩)))
  have ht : tg k = -1 := by unfold tg; rw [if_neg (by omega), if_neg (by omega)]
  have hi := inv_inv k
  refine .inr (.inr (.inr (.inr ⟨ht, h30, h31, fun e => ?_, fun e => ?_, by rw [inv_tg]; exact ht⟩)))
  · rw [e] at hi; exact h30 hi.symm
  · rw [e] at hi; exact h31 hi.symm
end Go.Proofs.YtalkhkhnpplofaaDoor
