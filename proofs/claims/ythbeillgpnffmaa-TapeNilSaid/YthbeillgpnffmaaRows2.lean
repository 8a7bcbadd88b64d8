/- Rows of our own that are written to; a new tape with its blocks. -/
import Derived.Test.YthbeillgpnffmaaRows
import Derived.WalkKit
import Derived.ProofKit
import Derived.OpenShut
import Derived.Below
import Derived.Lib.Hide
import Derived.WalkSpells
import Derived.WalkLawsBesides
import Derived.Outline
import Derived.WalkSmall
import Derived.IntWalk
import Derived.Deep.OwnRows
import Derived.Deep.QuietTactic
import Derived.BigQuiet
import Derived.Test.YthbeillgpnffmaaEqs
namespace Go.Proofs.Ythbeillgpnffmaa
open Go.ChangeShapes Go.WideShapes Go.ChangeAt Go.RowKit
set_option linter.unusedSimpArgs false
set_option linter.unusedVariables false

theorem OwnI.spot {w : World} {a : Option Addr} {n c k : Nat} {zs : List Int} (h : OwnI w (.slice a n c) zs) (hn : zs.length = n) (hk : k < n) :
    ∃ g o z, a = some ⟨g, o, none⟩ ∧ n ≤ c ∧ w.cell? ⟨g, o + k, none⟩ = some (.int .i64 z) ∧ w.frozen? ⟨g, o + k, none⟩ = false ∧ ∀ x, OwnI (w.setCell ⟨g, o + k, none⟩ (.int .i64 x)) (.slice a n c) (zs.set k x) := by
  rcases h with ⟨e, rfl⟩ | ⟨g, o, c', m, f, e, h1, h2, h3, h4, h5⟩
  · simp at hn; omega
  · cases e
    have hkl : k < zs.length := by omega
    refine ⟨g, o, zs[k], rfl, h2, ?_, h1.frozen _, fun x => ?_⟩
    · rw [h1.cell (by omega), h5 k zs[k] (List.getElem?_eq_getElem hkl)]
    · refine .inr ⟨g, o, c, m, _, by rw [List.length_set], h1.set (o + k) (.int .i64 x), by rw [List.length_set]; exact h2, h3, h4, fun i z hi => ?_⟩
      rw [List.getElem?_set] at hi
      by_cases hik : k = i
      · subst hik
        rw [if_pos rfl, if_pos hkl] at hi
        cases hi
        simp
      · rw [if_neg hik] at hi
        have : ¬ o + i = o + k := by omega
        simp only [this, if_false]
        exact h5 i z hi
theorem new_okF (a1 a2 : Option Addr) (n1 n2 c1 c2 : Nat) (ins outs : List Int) (w : World) (h1 : SliceI w a1 ins) (h2 : SliceI w a2 outs) (e1 : ins.length = n1) (e2 : outs.length = n2) (l1 : n1 ≤ 4096) (l2 : n2 ≤ 4096) :
    Calls Try.prog 13 #[.slice a1 n1 c1, .slice a2 n2 c2] w fun e w' => ∃ p F, e = .returned (.tuple #[.pointer (some ⟨p, 0, none⟩), .int .i64 0]) ∧ Tape w' F p ins outs ∧ (∀ k, F k → w.heap.size ≤ k) ∧ Below w.heap.size w w' := by
  subst e1 e2
  refine (new_ok a1 a2 c1 c2 ins outs w h1 h2 l1 l2).mono ?_
  rintro e w' ⟨p, rfl, ht, hb⟩
  exact ⟨p, _, rfl, ht, fun k hk => hk.1, hb⟩
theorem slice_of_own {w : World} {a : Option Addr} {c : Nat} {zs : List Int} (h : OwnI w (.slice a zs.length c) zs) : SliceI w a zs := by
  obtain ⟨a', c', e, hs, _⟩ := h.val
  cases e; exact hs
theorem heap_set_far (w : World) (g o k : Nat) (v : Value) (h : k ≠ g) : (w.setCell ⟨g, o, none⟩ v).heap[k]? = w.heap[k]? := Below.heap_setCell _ _ _ _ h
end Go.Proofs.Ythbeillgpnffmaa
