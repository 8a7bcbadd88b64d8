/- A slice of tokens that came in. -/
import Derived.Test.YteofoakkgkhjcaaRows
import Derived.WalkKit
import Derived.ProofKit
import Derived.OpenShut
import Derived.Below
import Derived.Lib.Hide
import Derived.WalkSpells
import Derived.WalkLawsBesides
import Derived.Outline
import Derived.Test.YteofoakkgkhjcaaSeam
import Derived.Deep.Slices
namespace Go.Proofs.Yteofoakkgkhjcaa
open Go.ChangeShapes Go.WideShapes Go.ChangeAt Go.RowKit
set_option linter.unusedSimpArgs false
set_option linter.unusedVariables false
theorem trod_fields {H : Type} {enc : TypeId × Value → H} {P : Program} {w : World} {base : Nat} {sp : Nat → Bool} {held : Bool} {fuel : Nat} {t : TypeId} {fs : Array Field} {cs : List Value} {x : DataW H × List MemPlace}
    (ht : P.underlying t = some (.struct fs)) (h : DataW.trod enc P w base sp held fuel t cs = some x) :
    ∃ (xs : List (DataW H × List MemPlace)) (m : Nat), fuel = m + 1 ∧ x.1 = .agg (xs.map (·.1)) ∧ cs.length = P.cellsOf t ∧
      ∀ (i : Nat) (f : Field), fs.toList[i]? = some f → ∃ y, xs[i]? = some y ∧ DataW.trod enc P w base sp held m f.type ((cs.drop f.offset).take (P.cellsOf f.type)) = some y := by
  cases fuel with
  | zero => simp [DataW.trod] at h
  | succ m =>
    simp only [DataW.trod, ht] at h
    split at h
    · rename_i hl
      obtain ⟨xs, hm, hx⟩ := Option.map_eq_some_iff.1 h
      refine ⟨xs, m, rfl, by rw [← hx], hl, fun i f hf => ?_⟩
      have hg := mapM_some_get hm i f hf
      have hlen := mapM_some_length hm
      have hlt : i < xs.length := by
        rcases Nat.lt_or_ge i xs.length with h1 | h1
        · exact h1
        · rw [List.getElem?_eq_none (by omega)] at hf; cases hf
      rw [List.getElem?_eq_getElem hlt] at hg ⊢
      exact ⟨_, rfl, hg⟩
    · cases h
instance : Inhabited GT := ⟨⟨0, [], 0⟩⟩
theorem addr_of {w : World} {a : Addr} {v : Value} (h : w.cell? a = some v) : a = ⟨a.block, a.off, none⟩ := by
  obtain ⟨b, o, s⟩ := a
  cases s with
  | none => rfl
  | some x =>
    exfalso
    unfold World.cell? at h
    simp only [Option.isSome_some, if_true] at h
    split at h <;> cases h
theorem open_toks {H : Type} {enc : TypeId × Value → H} {w : World} {base b0 : Nat} {sp : Nat → Bool} {held : Bool} {r : Reach} {v : Value} {d : DataW H} {p : List MemPlace}
    (hv : Value.okWide Try.prog w r b0 23 v) (h : DataW.Trod enc Try.prog w base sp held 23 v d p) :
    ∃ (a : Option Addr) (n cap : Nat) (l : List GT), v = .slice a n cap ∧ l.length = n ∧ SliceG w a l ∧ (∀ t ∈ l, t.t.length ≤ maxLen) := by
  obtain ⟨a, n, cap, rfl⟩ := okWide_slice Try.underlying23 hv
  obtain ⟨fuel, hf⟩ := h
  rcases Go.Deep.open_slice Try.underlying23 hf with ⟨hcs, _⟩ | ⟨a', len, cap', m, n', D, Pl, hcs, hb, hl, hm, hmm, _, hel⟩
  · simp [Value.cells] at hcs
    obtain ⟨rfl, rfl, rfl⟩ := hcs
    exact ⟨none, 0, 0, [], rfl, rfl, fun e => absurd rfl e, fun t ht => by cases ht⟩
  · simp [Value.cells] at hcs
    obtain ⟨rfl, rfl, rfl⟩ := hcs
    have hlm : n ≤ m := by rw [hmm]; split <;> omega
    have hC : Try.prog.cellsOf 33 = 3 := by kernel_rfl
    have h5 : Try.prog.cellsOf 5 = 1 := by kernel_rfl
    have h3 : Try.prog.cellsOf 3 = 1 := by kernel_rfl
    have h9 : Try.prog.cellsOf 9 = 1 := by kernel_rfl
    rw [hC] at hel
    have key : ∀ i, i < n → ∃ t : GT, (w.cell? (a'.add (i * 3)) = some (.int .u8 t.k) ∧ w.cell? ((a'.add (i * 3)).add 1) = some (.string ⟨t.t.toArray⟩) ∧ w.cell? ((a'.add (i * 3)).add 2) = some (.int .i64 t.p)) ∧ t.t.length ≤ maxLen := by
      intro i hi
      obtain ⟨cs', h1, h2⟩ := hel i (by omega)
      obtain ⟨_, hlen, hcell⟩ := World.cells?_some h1
      obtain ⟨xs, m', rfl, _, _, hfl⟩ := trod_fields Try.underlying33 h2
      match cs', hlen with
      | [c0, c1, c2], _ =>
        obtain ⟨y0, _, t0⟩ := hfl 0 _ rfl
        obtain ⟨y1, _, t1⟩ := hfl 1 _ rfl
        obtain ⟨y2, _, t2⟩ := hfl 2 _ rfl
        simp only [h5, h3, h9, List.drop_zero, List.drop_succ_cons, List.take_succ_cons, List.take_zero] at t0 t1 t2
        obtain ⟨k, e0, _, _⟩ := DataW.trod_int Try.underlying5 t0
        obtain ⟨s, e1, _, hs⟩ := DataW.trod_string Try.underlying9 t1
        obtain ⟨q, e2, _, _⟩ := DataW.trod_int Try.underlying3 t2
        simp only [List.cons.injEq, and_true] at e0 e1 e2
        subst e0 e1 e2
        refine ⟨⟨k, s.data.toList, q⟩, ⟨?_, ?_, ?_⟩, ?_⟩
        · have := hcell 0 (by omega)
          rw [show (a'.add (i * 3)).add 0 = a'.add (i * 3) from by unfold Addr.add; simp] at this
          exact this
        · exact hcell 1 (by omega)
        · exact hcell 2 (by omega)
        · exact hs
    obtain ⟨f, hf⟩ := Go.Deep.choose_lt key
    refine ⟨some a', n, cap, (List.range n).map f, rfl, by simp, fun hne => ?_, fun t ht => ?_⟩
    · have hn : 0 < n := by
        rcases Nat.eq_zero_or_pos n with h0 | h0
        · subst h0; exact absurd rfl hne
        · exact h0
      have h0 := (hf 0 hn).1.1
      rw [show a'.add (0 * 3) = a' from by unfold Addr.add; simp] at h0
      have ha := addr_of h0
      refine ⟨a'.block, a'.off, by rw [← ha], World.block_lt_of_cell? w _ h0, fun i t hi => ?_⟩
      rw [List.getElem?_map] at hi
      obtain ⟨j, hj, rfl⟩ := Option.map_eq_some_iff.1 hi
      have hj2 : j = i ∧ i < n := by
        rcases Nat.lt_or_ge i n with h1 | h1
        · rw [List.getElem?_range h1] at hj; exact ⟨(Option.some.inj hj).symm, h1⟩
        · rw [List.getElem?_eq_none (by simpa using h1)] at hj; cases hj
      obtain ⟨rfl, hin⟩ := hj2
      obtain ⟨⟨q0, q1, q2⟩, _⟩ := hf j hin
      rw [ha] at q0 q1 q2
      have e0 : (⟨a'.block, a'.off, none⟩ : Addr).add (j * 3) = ⟨a'.block, a'.off + j * 3, none⟩ := Addr.add_lit _ _ _
      rw [e0, Addr.add_lit] at q1 q2
      rw [e0] at q0
      exact ⟨q0, q1, q2⟩
    · obtain ⟨j, hj, rfl⟩ := List.mem_map.1 ht
      exact (hf j (List.mem_range.1 hj)).2
end Go.Proofs.Yteofoakkgkhjcaa
