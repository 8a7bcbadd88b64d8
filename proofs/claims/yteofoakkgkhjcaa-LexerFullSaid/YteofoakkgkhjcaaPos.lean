/- Where the tokens stand. No program here. -/
import Derived.Test.YteofoakkgkhjcaaTheory
namespace Go.Proofs.Yteofoakkgkhjcaa
theorem pos_at : ∀ (f : Nat) (l : List UInt8) (pos i : Nat) (x : Tok), (lexL f l pos).1[i]? = some x →
    x.p = pos + (join ((lexL f l pos).1.take i)).length ∧ x.t ≠ [] ∧ (join ((lexL f l pos).1.take i)) ++ x.t <+: l := by
  intro f
  induction f with
  | zero => intro l pos i x h; simp [lexL] at h
  | succ f ih =>
    intro l pos i x h
    match l with
    | [] => simp [lexL] at h
    | c :: l =>
      have hle := fstN_le (c :: l) (by simp)
      simp only [lexL] at h ⊢
      by_cases h0 : fstN (c :: l) = 0
      · rw [if_pos h0] at h; simp at h
      · rw [if_neg h0] at h ⊢
        cases i with
        | zero =>
          simp only [List.getElem?_cons_zero, Option.some.injEq] at h
          rw [← h]
          refine ⟨rfl, ?_, ?_⟩
          · intro e
            have := congrArg List.length e
            rw [List.length_take] at this
            simp at this; omega
          · exact List.take_prefix _ _
        | succ i =>
          simp only [List.getElem?_cons_succ] at h
          obtain ⟨h1, h2, h3⟩ := ih _ _ _ _ h
          refine ⟨?_, h2, ?_⟩
          · rw [h1]
            unfold join
            rw [List.take_succ_cons, List.flatMap_cons, List.length_append, List.length_take]
            have e : min (fstN (c :: l)) (c :: l).length = fstN (c :: l) := Nat.min_eq_left hle
            rw [e]; omega
          · unfold join at *
            rw [List.take_succ_cons, List.flatMap_cons, List.append_assoc]
            obtain ⟨r, hr⟩ := h3
            refine ⟨r, ?_⟩
            rw [List.append_assoc, hr, List.take_append_drop]
end Go.Proofs.Yteofoakkgkhjcaa
