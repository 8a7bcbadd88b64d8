/- What one operation and its inverse do, on lists. No program here. -/
import Derived.Test.YthbeillgpnffmaaArg
namespace Go.Proofs.Ythbeillgpnffmaa
set_option linter.unusedVariables false
set_option linter.unusedSimpArgs false

theorem step_err (k n : Int) (ins outs i' o' : List Int) (r e : Int) (h : stepT k n ins outs = (i', o', r, e)) (he : e ≠ 0) : i' = ins ∧ o' = outs ∧ r = 0 := by
  unfold stepT at h
  split at h
  · split at h
    · cases h; exact ⟨rfl, rfl, rfl⟩
    · cases h; exact absurd rfl he
  · split at h
    · split at h
      · cases h; exact ⟨rfl, rfl, rfl⟩
      · cases h; exact absurd rfl he
    · split at h
      · split at h
        · cases h; exact ⟨rfl, rfl, rfl⟩
        · cases h; exact absurd rfl he
      · split at h
        · cases h; exact ⟨rfl, rfl, rfl⟩
        · cases h; exact absurd rfl he
def backR (k n : Int) : Int := if k = 2 then n else if k = 3 then n else 0
theorem step_inv (k n : Int) (ins outs i' o' : List Int) (r : Int) (h : stepT k n ins outs = (i', o', r, 0)) (h1 : ins.length ≤ 4096) (h2 : outs.length ≤ 4096) :
    stepT (invK k) (invN k r) i' o' = (ins, outs, backR k n, 0) ∧ i'.length ≤ 4096 ∧ o'.length ≤ 4096 := by
  by_cases hk1 : k = 1
  · subst hk1
    unfold stepT at h
    rw [if_pos rfl] at h
    cases ins with
    | nil => cases h
    | cons z zs =>
      simp only [Prod.mk.injEq] at h
      obtain ⟨rfl, rfl, rfl, _⟩ := h
      simp only [List.length_cons] at h1
      refine ⟨?_, by omega, h2⟩
      show stepT 2 z zs outs = _
      unfold stepT
      rw [if_neg (by decide), if_pos rfl, if_neg (by omega)]; rfl
  · by_cases hk2 : k = 2
    · subst hk2
      unfold stepT at h
      rw [if_neg (by decide), if_pos rfl] at h
      split at h
      · cases h
      · cases h
        refine ⟨rfl, ?_, h2⟩
        rw [List.length_cons]; omega
    · by_cases hk3 : k = 3
      · subst hk3
        unfold stepT at h
        rw [if_neg (by decide), if_neg (by decide), if_pos rfl] at h
        split at h
        · cases h
        · cases h
          refine ⟨?_, h1, ?_⟩
          · show stepT 4 0 ins (outs ++ [n]) = _
            unfold stepT
            rw [if_neg (by decide), if_neg (by decide), if_neg (by decide)]
            simp [backR]
          · rw [List.length_append, List.length_singleton]; omega
      · rw [step_four hk1 hk2 hk3] at h
        unfold stepT at h
        rw [if_neg (by decide), if_neg (by decide), if_neg (by decide)] at h
        rcases List.eq_nil_or_concat outs with rfl | ⟨zs, z, rfl⟩
        · cases h
        · rw [List.concat_eq_append] at *
          simp at h
          obtain ⟨rfl, rfl, rfl⟩ := h
          rw [List.length_append, List.length_singleton] at h2
          refine ⟨?_, h1, by omega⟩
          have e1 : invK k = 3 := by unfold invK; rw [if_neg hk1, if_neg hk2, if_neg hk3]
          have e2 : invN k z = z := by unfold invN; rw [if_neg hk1, if_neg hk2, if_neg hk3]
          have e3 : backR k n = 0 := by unfold backR; rw [if_neg hk2, if_neg hk3]
          rw [e1, e2, e3]
          unfold stepT
          rw [if_neg (by decide), if_neg (by decide), if_pos rfl, if_neg (by omega)]
theorem step_lens (k n : Int) (ins outs i' o' : List Int) (r e : Int) (h : stepT k n ins outs = (i', o', r, e)) (h1 : ins.length ≤ 4096) (h2 : outs.length ≤ 4096) : i'.length ≤ 4096 ∧ o'.length ≤ 4096 := by
  by_cases he : e = 0
  · subst he; exact (step_inv k n ins outs i' o' r h h1 h2).2
  · obtain ⟨rfl, rfl, _⟩ := step_err k n ins outs i' o' r e h he
    exact ⟨h1, h2⟩
end Go.Proofs.Ythbeillgpnffmaa
