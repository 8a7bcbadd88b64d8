/- append of instructions that can be read to a row of the program's own. -/
import Derived.Test.YtalkhkhnpplofaaDoorRows
import Derived.WalkKit
import Derived.ProofKit
import Derived.OpenShut
import Derived.Below
import Derived.Lib.Hide
import Derived.Outline
import Derived.WalkLawsBesides
import Derived.WalkSpells
import Derived.WalkSmall
import Derived.IntWalk
import Derived.Deep.QuietTactic
import Derived.BigQuiet
import Derived.Deep.RegionHeld3
import Derived.StillTailTactics
import Derived.Handy
import Derived.Deep.Cut
import Derived.Deep.OwnRows
import Derived.Deep.RegionWith
import Derived.Test.YtalkhkhnpplofaaDoorMir2
import Derived.Deep.RegionLaw
import Derived.Deep.AppendLies
namespace Go.Proofs.YtalkhkhnpplofaaDoor
open Go.ChangeShapes Go.WideShapes Go.ChangeAt Go.RowKit
set_option linter.unusedSimpArgs false
set_option linter.unusedVariables false

theorem flat_len (l : List Ins) : (l.flatMap Ins.cells).length = l.length * 5 := by
  induction l with
  | nil => rfl
  | cons x l ih => rw [List.flatMap_cons, List.length_append, ih]; simp [Ins.cells]; omega
theorem flat_at (l : List Ins) (i j : Nat) (hj : j < 5) : (l.flatMap Ins.cells)[i * 5 + j]? = (l[i]?).bind (fun x => x.cells[j]?) := by
  induction l generalizing i with
  | nil => simp
  | cons x l ih =>
    rw [List.flatMap_cons]
    have hc : x.cells.length = 5 := rfl
    cases i with
    | zero =>
      rw [Nat.zero_mul, Nat.zero_add, List.getElem?_append_left (by omega)]; rfl
    | succ i =>
      rw [List.getElem?_append_right (by omega), hc, show (i + 1) * 5 + j - 5 = i * 5 + j by omega, ih]
      rfl
theorem flat_one (l : List Ins) : ∀ u ∈ l.flatMap Ins.cells, u.oneCell' = true := by
  intro u hu
  obtain ⟨x, _, hx⟩ := List.mem_flatMap.1 hu
  simp [Ins.cells] at hx
  rcases hx with rfl | rfl | rfl | rfl | rfl <;> rfl
theorem SliceC.flat {w : World} {b o : Nat} {l : List Ins} (h : SliceC w (some ⟨b, o, none⟩) l) : ∀ (j : Nat) (u : Value), (l.flatMap Ins.cells)[j]? = some u → w.cell? ⟨b, o + j, none⟩ = some u := by
  intro j u hj
  have h2 := flat_at l (j / 5) (j % 5) (by omega)
  rw [show j / 5 * 5 + j % 5 = j by omega, hj] at h2
  cases hx : l[j / 5]? with
  | none => rw [hx] at h2; cases h2
  | some x =>
    rw [hx] at h2
    obtain ⟨b', o', e, _, c0, c1, c2, c3, c4⟩ := h.at hx
    cases e
    have hq : j % 5 = 0 ∨ j % 5 = 1 ∨ j % 5 = 2 ∨ j % 5 = 3 ∨ j % 5 = 4 := by omega
    rcases hq with q | q | q | q | q <;> rw [q] at h2 <;> simp [Ins.cells] at h2 <;> subst h2
    · rw [show o + j = o + j / 5 * 5 by omega]; exact c0
    · rw [show o + j = o + j / 5 * 5 + 1 by omega]; exact c1
    · rw [show o + j = o + j / 5 * 5 + 2 by omega]; exact c2
    · rw [show o + j = o + j / 5 * 5 + 3 by omega]; exact c3
    · rw [show o + j = o + j / 5 * 5 + 4 by omega]; exact c4
/-- instructions in a row of the program's own -/
def OwnI (w : World) (B : Nat) (v : Value) (l : List Ins) : Prop := w.ownsRow B 39 5 v l.length (l.flatMap Ins.cells)
theorem OwnI.read {w : World} {B : Nat} {v : Value} {l : List Ins} (h : OwnI w B v l) : ∃ a cap, v = .slice a l.length cap ∧ SliceC w a l ∧ ∀ g o, a = some ⟨g, o, none⟩ → B ≤ g ∧ g < w.heap.size ∧ o = 0 ∧ ∀ q, w.frozen? ⟨g, q, none⟩ = false := by
  rcases h.2 with ⟨rfl, hn⟩ | ⟨g, cap, cur, rfl, hb, hg, rest⟩
  · have : l = [] := List.eq_nil_of_length_eq_zero hn
    subst this
    exact ⟨none, 0, rfl, fun e => absurd rfl e, fun g o e => by cases e⟩
  · have hlt := h.lt g rfl
    refine ⟨_, cap, rfl, fun _ => ⟨g, 0, rfl, hlt.2, fun i x hi => ?_⟩, fun g' o e => ?_⟩
    · have hil := lt_len hi
      have key : ∀ j (u : Value), j < 5 → x.cells[j]? = some u → w.cell? ⟨g, 0 + i * 5 + j, none⟩ = some u := fun j u hj hu => by
        have hc := World.ownsRow.cellAt h (i * 5 + j) (by omega)
        rw [Nat.zero_add, hc, flat_at l i j hj, hi]
        exact hu
      exact ⟨key 0 _ (by omega) rfl, key 1 _ (by omega) rfl, key 2 _ (by omega) rfl, key 3 _ (by omega) rfl, key 4 _ (by omega) rfl⟩
    · cases e
      exact ⟨hlt.1, hlt.2, rfl, fun q => World.ownsRow.frozenAt h q⟩
theorem app_runI (w : World) (ty : TypeId) (B : Nat) (v : Value) (xs : List Ins) (hown : OwnI w B v xs) (a : Option Addr) (c : Nat) (ys : List Ins) (hs : SliceC w a ys) (hx : xs.length ≤ 65536) (hy : ys.length ≤ 65536) (hB : B ≤ w.heap.size) :
    ∃ v' w', (Builtin.append_ #[22, 22] ty #[v, .slice a ys.length c]).run Tryd.prog w = .ok v' w' ∧ OwnI w' B v' (xs ++ ys) ∧ w.grownBy w' v.ownBlock := by
  obtain ⟨i0, hi, hz0, hz1, hz2⟩ := info_parts Tryd.info39
  unfold OwnI at hown ⊢
  by_cases hz : ys = []
  · subst hz
    refine ⟨v, w, ?_, by simpa using hown, ⟨rfl, rfl, rfl, Nat.le_refl _, fun _ _ _ => rfl⟩⟩
    have hf : (Builtin.firstCells i0.size 0 (.slice a 0 c)).run Tryd.prog w = .ok #[] w := by
      cases a with
      | none => exact run_firstCells_none w _ 0 0 c
      | some a => exact run_firstCells_some w _ 0 a 0 c [] (by simp) (fun j u hj => by simp at hj)
    rcases hown.2 with ⟨rfl, _⟩ | ⟨g, cap, cur, rfl, hbg, hg, h4, _⟩
    · simp [Builtin.append_, run_underlying Tryd.underlying22, sizeOf, typeInfo, hi, Builtin.lenOf, hf]
    · simp [Builtin.append_, run_underlying Tryd.underlying22, sizeOf, typeInfo, hi, Builtin.lenOf, hf, h4, storeCells]
  · obtain ⟨b, o, rfl, _, _⟩ := hs hz
    obtain ⟨v', w', h1, h2, h3, _⟩ := run_append_own (P := Tryd.prog) w B 22 ty 39 i0 (.agg #[.int .u8 0, .int .i64 0, .int .i64 0, .int .i64 0, .int .i64 0]) 5 40 Tryd.underlying22 hi hz0 hz1 hz2 rfl (by decide) v xs.length _ hown ⟨b, o, none⟩ ys.length c (ys.flatMap Ins.cells) (flat_len ys) (fun j u hj => by
      rw [Addr.add_lit]; exact hs.flat j u hj) (flat_one ys) (by unfold maxLen; omega) (by omega) hB
    exact ⟨v', w', h1, by rw [List.flatMap_append, List.length_append]; exact h2, h3⟩
theorem wp_appI {o : Oper} {ac : Act} {w : World} {K : Act → World → Prop} {Q : Exit → Act → World → Prop} (s x : Operand) (ho : o.op = .call { callee := .builtin .append, args := #[s, x], argTypes := #[22, 22] })
    (B : Nat) (v : Value) (xs : List Ins) (hv : ac.eval s = v) (hown : OwnI w B v xs) (a : Option Addr) (c n : Nat) (ys : List Ins) (hxx : ac.eval x = .slice a n c) (hn : ys.length = n) (hs : SliceC w a ys) (hx : xs.length ≤ 65536) (hy : ys.length ≤ 65536) (hB : B ≤ w.heap.size)
    (h : ∀ v' w', OwnI w' B v' (xs ++ ys) → w.grownBy w' v.ownBlock → K (ac.put o.dst v') w') : o.wp Tryd.prog ac w K Q := by
  subst hn
  obtain ⟨v', w', hr, h2, h3⟩ := app_runI w o.type B v xs hown a c ys hs hx hy hB
  unfold Oper.wp execOp
  simp only [ho, resolve, invoke, builtin, Sem.run_bind, Sem.run_pure, Result.andThen_ok, List.map_toArray, List.map_cons, List.map_nil, hv, hxx, hr]
  exact h v' w' h2 h3
theorem step_appI {ops : Array Oper} {o : Oper} {ac : Act} {w : World} {K : Act → World → Prop} {Q : Exit → Act → World → Prop} {E : Prop} (hgd : o.guard = none) (s x : Operand) (ho : o.op = .call { callee := .builtin .append, args := #[s, x], argTypes := #[22, 22] })
    (B : Nat) (v : Value) (xs : List Ins) (hv : ac.eval s = v) (hown : OwnI w B v xs) (a : Option Addr) (c n : Nat) (ys : List Ins) (hxx : ac.eval x = .slice a n c) (hn : ys.length = n) (hs : SliceC w a ys) (hx : xs.length ≤ 65536) (hy : ys.length ≤ 65536) (hB : B ≤ w.heap.size)
    (h : ∀ v' w', OwnI w' B v' (xs ++ ys) → w.grownBy w' v.ownBlock → K (ac.put o.dst v') w') : if Region.wanted o (yielded ops ac.tmps) = true then Oper.wp Tryd.prog o ac w K Q else E := by
  have hw : Region.wanted o (yielded ops ac.tmps) = true := by simp [Region.wanted, hgd]
  rw [if_pos hw]
  exact wp_appI s x ho B v xs hv hown a c n ys hxx hn hs hx hy hB h
/-- a new empty row -/
theorem ownI_empty (w : World) : OwnI (w.alloc (.cells #[] 39)) w.heap.size (.slice (some ⟨w.heap.size, 0, none⟩) 0 0) [] :=
  ⟨rfl, .inr ⟨w.heap.size, 0, _, rfl, Nat.le_refl _, heap_alloc_new w _, Nat.le_refl _, by unfold maxLen; omega, by simp, by simp⟩⟩

theorem OwnI.alloc {w : World} {B : Nat} {v : Value} {l : List Ins} (h : OwnI w B v l) (o : Obj) : OwnI (w.alloc o) B v l := World.ownsRow.alloc h o
theorem OwnI.base {w : World} {B B' : Nat} {v : Value} {l : List Ins} (h : OwnI w B v l) (hb : B' ≤ B) : OwnI w B' v l := by
  refine ⟨h.1, ?_⟩
  rcases h.2 with h2 | ⟨g, cap, cur, h1, h2, h3⟩
  · exact .inl h2
  · exact .inr ⟨g, cap, cur, h1, by omega, h3⟩
theorem ownI_new (w : World) (k B : Nat) (hk : w.heap.size = k) (hB : B ≤ k) : OwnI (w.alloc (.cells #[] 39)) B (.slice (some ⟨k, 0, none⟩) 0 0) [] := by
  subst hk
  exact (ownI_empty w).base hB
theorem grownI {w0 w w' : World} {v : Value} {l : List Ins} (h : Below w0.heap.size w0 w) (ho : OwnI w w0.heap.size v l) (hg : w.grownBy w' v.ownBlock) : Below w0.heap.size w0 w' := h.grown hg h.size (fun j hj => (World.ownsRow.lt ho j hj).1)
theorem step_appJ {ops : Array Oper} {o : Oper} {ac : Act} {w : World} {K : Act → World → Prop} {Q : Exit → Act → World → Prop} {E : Prop} (hgd : o.guard = none) (s x : Operand) (ho : o.op = .call { callee := .builtin .append, args := #[s, x], argTypes := #[22, 22] })
    (w0 : World) (h0 : Below w0.heap.size w0 w) (v : Value) (xs : List Ins) (hv : ac.eval s = v) (hown : OwnI w w0.heap.size v xs) (a : Option Addr) (c n : Nat) (ys : List Ins) (hxx : ac.eval x = .slice a n c) (hn : ys.length = n) (hs : SliceC w a ys) (hx : xs.length ≤ 65536) (hy : n ≤ 65536)
    (h : ∀ v' w', OwnI w' w0.heap.size v' (xs ++ ys) → Below w0.heap.size w0 w' → (∀ b, b < w.heap.size → v.ownBlock ≠ some b → w'.heap[b]? = w.heap[b]?) → K (ac.put o.dst v') w') : if Region.wanted o (yielded ops ac.tmps) = true then Oper.wp Tryd.prog o ac w K Q else E := by
  have hw : Region.wanted o (yielded ops ac.tmps) = true := by simp [Region.wanted, hgd]
  rw [if_pos hw]
  exact wp_appI s x ho w0.heap.size v xs hv hown a c n ys hxx hn hs hx (by omega) h0.size fun v' w' h1 h2 => h v' w' h1 (grownI h0 hown h2) (fun b hb hr => h2.block b hb (fun e => hr e.symm))
theorem far_cell {w w' : World} {b o : Nat} {u : Value} (hk : w'.heap[b]? = w.heap[b]?) (hc : w.cell? ⟨b, o, none⟩ = some u) : w'.cell? ⟨b, o, none⟩ = some u := by rw [World.cell?_of_block (w := w) hk]; exact hc
theorem far_froz {w w' : World} {b o : Nat} {y : Bool} (hk : w'.heap[b]? = w.heap[b]?) (hc : w.frozen? ⟨b, o, none⟩ = y) : w'.frozen? ⟨b, o, none⟩ = y := by rw [← hc]; unfold World.frozen?; rw [hk]
theorem step_copyI {ops : Array Oper} {o : Oper} {ac : Act} {w : World} {K : Act → World → Prop} {Q : Exit → Act → World → Prop} {E : Prop} (hgd : o.guard = none) (s x : Operand) (ho : o.op = .call { callee := .builtin .append, args := #[s, x], argTypes := #[22, 22] })
    (w0 : World) (h0 : Below w0.heap.size w0 w) (g0 : Nat) (hv : ac.eval s = .slice (some ⟨g0, 0, none⟩) 0 0) (hown : OwnI w w0.heap.size (.slice (some ⟨g0, 0, none⟩) 0 0) []) (a : Option Addr) (c n : Nat) (ys : List Ins) (hxx : ac.eval x = .slice a n c) (hn : ys.length = n) (hs : SliceC w a ys) (hy : n ≤ 65536)
    (h : ∀ aa cc w', OwnI w' w0.heap.size (.slice aa n cc) ys → Below w0.heap.size w0 w' → (∀ b o, b < w.heap.size → b ≠ g0 → w'.cell? ⟨b, o, none⟩ = w.cell? ⟨b, o, none⟩) → (∀ b o, b < w.heap.size → b ≠ g0 → w'.frozen? ⟨b, o, none⟩ = w.frozen? ⟨b, o, none⟩) → K (ac.put o.dst (.slice aa n cc)) w') : if Region.wanted o (yielded ops ac.tmps) = true then Oper.wp Tryd.prog o ac w K Q else E :=
  step_appJ hgd s x ho w0 h0 _ [] hv hown a c n ys hxx hn hs (by simp) hy fun v' w' h1 h2 h3 => by
    rw [List.nil_append] at h1
    obtain ⟨aa, cc, rfl, _⟩ := h1.read
    subst hn
    have hk : ∀ b, b < w.heap.size → b ≠ g0 → w'.heap[b]? = w.heap[b]? := fun b hb hne => h3 b hb (by simp [Value.ownBlock]; omega)
    exact h aa cc w' h1 h2 (fun b o hb hne => World.cell?_of_block (w := w) (hk b hb hne)) (fun b o hb hne => by unfold World.frozen?; rw [hk b hb hne])
/-- a new box of an image, behind draws -/
theorem boxN (w : World) (b : Nat) (v0 v1 v2 : Value) (hb : w.heap.size = b) :
    ((w.alloc (.cells #[v0, v1, v2] 24)).cell? ⟨b, 0, none⟩ = some v0 ∧ (w.alloc (.cells #[v0, v1, v2] 24)).cell? ⟨b, 1, none⟩ = some v1 ∧ (w.alloc (.cells #[v0, v1, v2] 24)).cell? ⟨b, 2, none⟩ = some v2) ∧ ∀ q, (w.alloc (.cells #[v0, v1, v2] 24)).frozen? ⟨b, q, none⟩ = false := by
  subst hb
  refine ⟨⟨?_, ?_, ?_⟩, fun q => ?_⟩
  · rw [World.cell?_alloc_at _ _ _ _ rfl]; rfl
  · rw [World.cell?_alloc_at _ _ _ _ rfl]; rfl
  · rw [World.cell?_alloc_at _ _ _ _ rfl]; rfl
  · rw [World.frozen?_alloc_at _ _ _ _ rfl]
theorem below_cells {w w' : World} {b : Nat} {v0 v1 v2 : Value} (hb : w'.heap[b]? = w.heap[b]?)
    (h : (w.cell? ⟨b, 0, none⟩ = some v0 ∧ w.cell? ⟨b, 1, none⟩ = some v1 ∧ w.cell? ⟨b, 2, none⟩ = some v2) ∧ ∀ q, w.frozen? ⟨b, q, none⟩ = false) :
    (w'.cell? ⟨b, 0, none⟩ = some v0 ∧ w'.cell? ⟨b, 1, none⟩ = some v1 ∧ w'.cell? ⟨b, 2, none⟩ = some v2) ∧ ∀ q, w'.frozen? ⟨b, q, none⟩ = false :=
  ⟨⟨far_cell hb h.1.1, far_cell hb h.1.2.1, far_cell hb h.1.2.2⟩, fun q => far_froz hb (h.2 q)⟩
/-- a block that the append does not touch -/
theorem grown_far {w w' : World} {r : Option Nat} (hg : w.grownBy w' r) {b : Nat} (hb : b < w.heap.size) (hr : some b ≠ r) : w'.heap[b]? = w.heap[b]? := hg.block b hb hr
end Go.Proofs.YtalkhkhnpplofaaDoor
