/- Tokens of a suffix that starts at a token. No program here. -/
import Derived.Test.YteofoakkgkhjcaaAlone
namespace Go.Proofs.Yteofoakkgkhjcaa
def addp (n : Nat) (x : Tok) : Tok := ⟨x.k, x.t, x.p + n⟩
theorem lexL_shift : ∀ (f : Nat) (l : List UInt8) (pos n : Nat), lexL f l (pos + n) = ((lexL f l pos).1.map (addp n), (lexL f l pos).2.map (· + n)) := by
  intro f
  induction f with
  | zero => intro l pos n; rfl
  | succ f ih =>
    intro l pos n
    match l with
    | [] => rfl
    | c :: l =>
      simp only [lexL]
      by_cases h0 : fstN (c :: l) = 0
      · rw [if_pos h0, if_pos h0]; rfl
      · rw [if_neg h0, if_neg h0]
        have e : pos + n + fstN (c :: l) = pos + fstN (c :: l) + n := by omega
        rw [e, ih]
        rfl
theorem lexR_shift (l : List UInt8) (n : Nat) : lexR l n = ((lexR l 0).1.map (addp n), (lexR l 0).2.map (· + n)) := by
  have := lexL_shift l.length l 0 n
  rw [Nat.zero_add] at this
  exact this
theorem lexR_drop : ∀ (n : Nat) (l : List UInt8) (pos : Nat) (x : Tok), (lexR l pos).1[n]? = some x →
    pos ≤ x.p ∧ x.p - pos ≤ l.length ∧ lexR (l.drop (x.p - pos)) x.p = ((lexR l pos).1.drop n, (lexR l pos).2) := by
  intro n
  induction n with
  | zero =>
    intro l pos x h
    match l with
    | [] => rw [lexR_nil] at h; simp at h
    | c :: l =>
      by_cases h0 : fstN (c :: l) = 0
      · rw [lexR_bad (by simp) pos h0] at h; simp at h
      · have hp : x.p = pos := by
          rw [lexR_cons (by simp) pos h0] at h
          simp only [List.getElem?_cons_zero, Option.some.injEq] at h
          rw [← h]
        rw [hp]
        refine ⟨Nat.le_refl _, by omega, ?_⟩
        rw [Nat.sub_self, List.drop_zero, List.drop_zero]
  | succ n ih =>
    intro l pos x h
    match l with
    | [] => rw [lexR_nil] at h; simp at h
    | c :: l =>
      by_cases h0 : fstN (c :: l) = 0
      · rw [lexR_bad (by simp) pos h0] at h; simp at h
      · have hle := fstN_le (c :: l) (by simp)
        rw [lexR_cons (by simp) pos h0] at h ⊢
        simp only [List.getElem?_cons_succ] at h
        obtain ⟨h1, h2, h3⟩ := ih _ _ _ h
        rw [List.length_drop] at h2
        refine ⟨by omega, by omega, ?_⟩
        rw [List.drop_drop] at h3
        have e : fstN (c :: l) + (x.p - (pos + fstN (c :: l))) = x.p - pos := by omega
        rw [e] at h3
        rw [h3]
        rfl
/-- the suffix at token n has the remaining tokens, shifted -/
theorem suffix {l : List UInt8} {ts : List Tok} {n : Nat} {x : Tok} (h : lexR l 0 = (ts, none)) (hx : ts[n]? = some x) :
    x.p ≤ l.length ∧ ∃ ms, lexR (l.drop x.p) 0 = (ms, none) ∧ ms.length = ts.length - n ∧ ms ≠ [] ∧ ∀ i m, ms[i]? = some m → ts[n + i]? = some ⟨m.k, m.t, m.p + x.p⟩ := by
  have h0 := lexR_drop n l 0 x (by rw [h]; exact hx)
  obtain ⟨_, h2, h3⟩ := h0
  rw [h] at h3
  rw [Nat.sub_zero] at h2 h3
  have hs := lexR_shift (l.drop x.p) x.p
  rw [h3] at hs
  simp only [Prod.mk.injEq] at hs
  obtain ⟨s1, s2⟩ := hs
  have s3 : (lexR (l.drop x.p) 0).2 = none := by
    cases e : (lexR (l.drop x.p) 0).2 with
    | none => rfl
    | some a => rw [e] at s2; cases s2
  have hlt : n < ts.length := by
    rcases Nat.lt_or_ge n ts.length with h1 | h1
    · exact h1
    · rw [List.getElem?_eq_none h1] at hx; cases hx
  have hlen : (lexR (l.drop x.p) 0).1.length = ts.length - n := by
    have := congrArg List.length s1
    rw [List.length_drop, List.length_map] at this
    exact this.symm
  refine ⟨h2, (lexR (l.drop x.p) 0).1, by rw [← s3], hlen, fun e => by rw [e] at hlen; simp at hlen; omega, fun i m hi => ?_⟩
  have : (ts.drop n)[i]? = some (addp x.p m) := by rw [s1, List.getElem?_map, hi]; rfl
  rw [List.getElem?_drop] at this
  exact this
end Go.Proofs.Yteofoakkgkhjcaa
