/- Slices of integers and of operations, and one operation, that came in. -/
import Derived.Test.YthbeillgpnffmaaRows
import Derived.WalkKit
import Derived.ProofKit
import Derived.OpenShut
import Derived.Below
import Derived.Lib.Hide
import Derived.WalkSpells
import Derived.WalkLawsBesides
import Derived.Outline
import Derived.WalkSmall
import Derived.IntWalk
import Derived.Deep.OwnRows
import Derived.Deep.QuietTactic
import Derived.BigQuiet
import Derived.Test.YthbeillgpnffmaaAwake
import Derived.Deep.Slices
namespace Go.Proofs.Ythbeillgpnffmaa
open Go.ChangeShapes Go.WideShapes Go.ChangeAt Go.RowKit
set_option linter.unusedSimpArgs false
set_option linter.unusedVariables false
theorem trod_fields {H : Type} {enc : TypeId × Value → H} {P : Program} {w : World} {base : Nat} {sp : Nat → Bool} {held : Bool} {fuel : Nat} {t : TypeId} {fs : Array Field} {cs : List Value} {x : DataW H × List MemPlace}
    (ht : P.underlying t = some (.struct fs)) (h : DataW.trod enc P w base sp held fuel t cs = some x) :
    ∃ (xs : List (DataW H × List MemPlace)) (m : Nat), fuel = m + 1 ∧ x.1 = .agg (xs.map (·.1)) ∧ cs.length = P.cellsOf t ∧
      ∀ (i : Nat) (f : Field), fs.toList[i]? = some f → ∃ y, xs[i]? = some y ∧ DataW.trod enc P w base sp held m f.type ((cs.drop f.offset).take (P.cellsOf f.type)) = some y := by
  cases fuel with
  | zero => simp [DataW.trod] at h
  | succ m =>
    simp only [DataW.trod, ht] at h
    split at h
    · rename_i hl
      obtain ⟨xs, hm, hx⟩ := Option.map_eq_some_iff.1 h
      refine ⟨xs, m, rfl, by rw [← hx], hl, fun i f hf => ?_⟩
      have hg := mapM_some_get hm i f hf
      have hlen := mapM_some_length hm
      have hlt : i < xs.length := by
        rcases Nat.lt_or_ge i xs.length with h1 | h1
        · exact h1
        · rw [List.getElem?_eq_none (by omega)] at hf; cases hf
      rw [List.getElem?_eq_getElem hlt] at hg ⊢
      exact ⟨_, rfl, hg⟩
    · cases h

theorem addr_of {w : World} {a : Addr} {v : Value} (h : w.cell? a = some v) : a = ⟨a.block, a.off, none⟩ := by
  obtain ⟨b, o, s⟩ := a
  cases s with
  | none => rfl
  | some x =>
    exfalso
    unfold World.cell? at h
    simp only [Option.isSome_some, if_true] at h
    split at h <;> cases h
theorem add_zero_ (a : Addr) : a.add 0 = a := by unfold Addr.add; simp
theorem open_intsS {H : Type} {enc : TypeId × Value → H} {w : World} {base b0 : Nat} {sp : Nat → Bool} {held : Bool} {r : Reach} {v : Value} {d : DataW H} {p : List MemPlace}
    (hv : Value.okWide Try.prog w r b0 22 v) (h : DataW.Trod enc Try.prog w base sp held 22 v d p) :
    ∃ (a : Option Addr) (n cap : Nat) (l : List Int), v = .slice a n cap ∧ l.length = n ∧ SliceI w a l ∧ n ≤ cap := by
  obtain ⟨a, n, cap, rfl⟩ := okWide_slice Try.underlying22 hv
  obtain ⟨fuel, hf⟩ := h
  rcases Go.Deep.open_slice1 Try.underlying22 (by kernel_rfl) hf with ⟨hcs, _⟩ | ⟨a', len, cap', m, n', V, D, Pl, hcs, hb, hl, hm, hmm, _, hel⟩
  · simp [Value.cells] at hcs
    obtain ⟨rfl, rfl, rfl⟩ := hcs
    exact ⟨none, 0, 0, [], rfl, rfl, fun e => absurd rfl e, Nat.le_refl _⟩
  · simp [Value.cells] at hcs
    obtain ⟨rfl, rfl, rfl⟩ := hcs
    have hlm : n ≤ m := by rw [hmm]; split <;> omega
    have key : ∀ i, i < n → ∃ z : Int, w.cell? (a'.add i) = some (.int .i64 z) := by
      intro i hi
      obtain ⟨h1, h2⟩ := hel i (by omega)
      obtain ⟨z, e0, _, _⟩ := DataW.trod_int Try.underlying3 h2
      simp only [List.cons.injEq, and_true] at e0
      exact ⟨z, by rw [h1, e0]⟩
    obtain ⟨f, hf⟩ := Go.Deep.choose_lt key
    refine ⟨some a', n, cap, (List.range n).map f, rfl, by simp, fun hne => ?_, hl⟩
    have hn : 0 < n := by
      rcases Nat.eq_zero_or_pos n with h0 | h0
      · subst h0; exact absurd rfl hne
      · exact h0
    have h0 := hf 0 hn
    rw [add_zero_] at h0
    have ha := addr_of h0
    refine ⟨a'.block, a'.off, by rw [← ha], World.block_lt_of_cell? w _ h0, fun i t hi => ?_⟩
    rw [List.getElem?_map] at hi
    obtain ⟨j, hj, rfl⟩ := Option.map_eq_some_iff.1 hi
    have hj2 : j = i ∧ i < n := by
      rcases Nat.lt_or_ge i n with h1 | h1
      · rw [List.getElem?_range h1] at hj; exact ⟨(Option.some.inj hj).symm, h1⟩
      · rw [List.getElem?_eq_none (by simpa using h1)] at hj; cases hj
    obtain ⟨rfl, hin⟩ := hj2
    have q0 := hf j hin
    rw [ha, Addr.add_lit] at q0
    exact q0
theorem open_op {H : Type} {enc : TypeId × Value → H} {w : World} {base b0 : Nat} {sp : Nat → Bool} {held : Bool} {r : Reach} {v : Value} {d : DataW H} {p : List MemPlace}
    (hv : Value.okWide Try.prog w r b0 37 v) (h : DataW.Trod enc Try.prog w base sp held 37 v d p) :
    ∃ k n : Int, v = .agg #[.int .i64 k, .int .i64 n] := by
  obtain ⟨cs, rfl, hsz⟩ := okWide_struct Try.underlying37 hv
  obtain ⟨fuel, hf⟩ := h
  obtain ⟨xs, m, rfl, _, hlen, hel⟩ := trod_fields Try.underlying37 hf
  have hC : Try.prog.cellsOf 37 = 2 := by kernel_rfl
  have h3 : Try.prog.cellsOf 3 = 1 := by kernel_rfl
  have hcs : cs.toList.length = 2 := by simpa using hsz.trans hC
  obtain ⟨l⟩ := cs
  match l, hcs with
  | [c0, c1], _ =>
    obtain ⟨y0, _, t0⟩ := hel 0 _ rfl
    obtain ⟨y1, _, t1⟩ := hel 1 _ rfl
    simp only [h3, Value.cells, List.drop_zero, List.drop_succ_cons, List.take_succ_cons, List.take_zero] at t0 t1
    obtain ⟨k, e0, _, wk⟩ := DataW.trod_int Try.underlying3 t0
    obtain ⟨a, e1, _, _⟩ := DataW.trod_int Try.underlying3 t1
    simp only [List.cons.injEq, and_true] at e0 e1
    subst e0 e1
    exact ⟨k, a, rfl⟩
/-- operations that can be read -/
def SliceO (w : World) (a : Option Addr) (l : List (Int × Int)) : Prop := l ≠ [] → ∃ b o, a = some ⟨b, o, none⟩ ∧ b < w.heap.size ∧ ∀ (i : Nat) (x : Int × Int), l[i]? = some x → w.cell? ⟨b, o + i * 2, none⟩ = some (.int .i64 x.1) ∧ w.cell? ⟨b, o + i * 2 + 1, none⟩ = some (.int .i64 x.2)
theorem SliceO.below {w w' : World} {a : Option Addr} {l : List (Int × Int)} (h : SliceO w a l) (hb : Below w.heap.size w w') : SliceO w' a l := fun hl => by
  obtain ⟨b, o, rfl, h1, h2⟩ := h hl
  exact ⟨b, o, rfl, Nat.lt_of_lt_of_le h1 hb.size, fun i x hi => ⟨(hb.cell (p := ⟨b, o + i * 2, none⟩) h1).trans (h2 i x hi).1, (hb.cell (p := ⟨b, o + i * 2 + 1, none⟩) h1).trans (h2 i x hi).2⟩⟩
theorem open_ops {H : Type} {enc : TypeId × Value → H} {w : World} {base b0 : Nat} {sp : Nat → Bool} {held : Bool} {r : Reach} {v : Value} {d : DataW H} {p : List MemPlace}
    (hv : Value.okWide Try.prog w r b0 32 v) (h : DataW.Trod enc Try.prog w base sp held 32 v d p) :
    ∃ (a : Option Addr) (n cap : Nat) (l : List (Int × Int)), v = .slice a n cap ∧ l.length = n ∧ SliceO w a l := by
  obtain ⟨a, n, cap, rfl⟩ := okWide_slice Try.underlying32 hv
  obtain ⟨fuel, hf⟩ := h
  rcases Go.Deep.open_slice Try.underlying32 hf with ⟨hcs, _⟩ | ⟨a', len, cap', m, n', D, Pl, hcs, hb, hl, hm, hmm, _, hel⟩
  · simp [Value.cells] at hcs
    obtain ⟨rfl, rfl, rfl⟩ := hcs
    exact ⟨none, 0, 0, [], rfl, rfl, fun e => absurd rfl e⟩
  · simp [Value.cells] at hcs
    obtain ⟨rfl, rfl, rfl⟩ := hcs
    have hlm : n ≤ m := by rw [hmm]; split <;> omega
    have hC : Try.prog.cellsOf 37 = 2 := by kernel_rfl
    have h3 : Try.prog.cellsOf 3 = 1 := by kernel_rfl
    rw [hC] at hel
    have key : ∀ i, i < n → ∃ t : Int × Int, w.cell? (a'.add (i * 2)) = some (.int .i64 t.1) ∧ w.cell? ((a'.add (i * 2)).add 1) = some (.int .i64 t.2) := by
      intro i hi
      obtain ⟨cs', h1, h2⟩ := hel i (by omega)
      obtain ⟨_, hlen, hcell⟩ := World.cells?_some h1
      obtain ⟨xs, m', rfl, _, _, hfl⟩ := trod_fields Try.underlying37 h2
      match cs', hlen with
      | [c0, c1], _ =>
        obtain ⟨y0, _, t0⟩ := hfl 0 _ rfl
        obtain ⟨y1, _, t1⟩ := hfl 1 _ rfl
        simp only [h3, List.drop_zero, List.drop_succ_cons, List.take_succ_cons, List.take_zero] at t0 t1
        obtain ⟨k, e0, _, _⟩ := DataW.trod_int Try.underlying3 t0
        obtain ⟨q, e1, _, _⟩ := DataW.trod_int Try.underlying3 t1
        simp only [List.cons.injEq, and_true] at e0 e1
        subst e0 e1
        refine ⟨(k, q), ?_, ?_⟩
        · have := hcell 0 (by omega)
          rw [add_zero_] at this
          exact this
        · exact hcell 1 (by omega)
    obtain ⟨f, hf⟩ := Go.Deep.choose_lt key
    refine ⟨some a', n, cap, (List.range n).map f, rfl, by simp, fun hne => ?_⟩
    have hn : 0 < n := by
      rcases Nat.eq_zero_or_pos n with h0 | h0
      · subst h0; exact absurd rfl hne
      · exact h0
    have h0 := (hf 0 hn).1
    rw [Nat.zero_mul, add_zero_] at h0
    have ha := addr_of h0
    refine ⟨a'.block, a'.off, by rw [← ha], World.block_lt_of_cell? w _ h0, fun i t hi => ?_⟩
    rw [List.getElem?_map] at hi
    obtain ⟨j, hj, rfl⟩ := Option.map_eq_some_iff.1 hi
    have hj2 : j = i ∧ i < n := by
      rcases Nat.lt_or_ge i n with h1 | h1
      · rw [List.getElem?_range h1] at hj; exact ⟨(Option.some.inj hj).symm, h1⟩
      · rw [List.getElem?_eq_none (by simpa using h1)] at hj; cases hj
    obtain ⟨rfl, hin⟩ := hj2
    obtain ⟨q0, q1⟩ := hf j hin
    rw [ha] at q0 q1
    have e0 : (⟨a'.block, a'.off, none⟩ : Addr).add (j * 2) = ⟨a'.block, a'.off + j * 2, none⟩ := Addr.add_lit _ _ _
    rw [e0, Addr.add_lit] at q1
    rw [e0] at q0
    exact ⟨q0, q1⟩
end Go.Proofs.Ythbeillgpnffmaa
