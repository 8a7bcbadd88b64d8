/- More of the plain lexer: prefixes, losslessness. No program here. -/
import Derived.Test.YteofoakkgkhjcaaSuffix
namespace Go.Proofs.Yteofoakkgkhjcaa
theorem runN_take_ge (p : Int → Bool) : ∀ (l : List UInt8) (m : Nat), runN p l ≤ m → runN p (l.take m) = runN p l := by
  intro l
  induction l with
  | nil => intro m _; simp
  | cons c l ih =>
    intro m hm
    unfold runN at *
    rw [List.takeWhile_cons] at hm ⊢
    by_cases h : p (c.toNat : Int) = true
    · rw [if_pos h] at hm ⊢
      match m, hm with
      | 0, hm => simp at hm
      | m + 1, hm =>
        rw [List.take_succ_cons, List.takeWhile_cons, if_pos h, List.length_cons, List.length_cons, ih m (by simpa using hm)]
    · rw [if_neg h]
      match m with
      | 0 => rfl
      | m + 1 => rw [List.take_succ_cons, List.takeWhile_cons, if_neg h]
theorem pre_take {l p : List UInt8} {m : Nat} (h : Lib.hasPrefix (l.take m) p = true) : Lib.hasPrefix l p = true := by
  unfold Lib.hasPrefix at *
  exact List.isPrefixOf_iff_prefix.2 ((List.isPrefixOf_iff_prefix.1 h).trans (List.take_prefix _ _))
theorem sgn_take_ge (l : List UInt8) (m : Nat) (hm : sgn l ≤ m) (h0 : m ≠ 0) : sgn (l.take m) = sgn l := by
  by_cases hp : Lib.hasPrefix l [60, 61, 62] = true
  · have e : sgn l = 3 := by unfold sgn; rw [if_pos hp]
    have hq : Lib.hasPrefix (l.take m) [60, 61, 62] = true := by
      unfold Lib.hasPrefix at *
      have h1 := List.isPrefixOf_iff_prefix.1 hp
      have h2 := h1.length_le
      apply List.isPrefixOf_iff_prefix.2
      refine List.prefix_of_prefix_length_le h1 (List.take_prefix m l) ?_
      rw [List.length_take]
      rw [e] at hm
      simp at h2 ⊢
      omega
    rw [e]; unfold sgn; rw [if_pos hq]
  · have hnp : ¬ Lib.hasPrefix (l.take m) [60, 61, 62] = true := fun h => hp (pre_take h)
    by_cases ht : l.take 2 ∈ two
    · have e : sgn l = 2 := by unfold sgn; rw [if_neg hp, if_pos ht]
      rw [e] at hm ⊢
      unfold sgn
      rw [if_neg hnp, if_pos]
      rw [List.take_take, Nat.min_eq_left hm]; exact ht
    · have hnt : (l.take m).take 2 ∉ two := by
        intro h
        have h2 := two_take h
        rw [List.take_take] at h h2
        rcases Nat.lt_or_ge m 2 with h3 | h3
        · rw [List.length_take] at h2; omega
        · rw [Nat.min_eq_left h3] at h; exact ht h
      unfold sgn
      rw [if_neg hnp, if_neg hnt, if_neg hp, if_neg ht, head_take l m h0]
/-- a longer piece than the first token has the same first token -/
theorem fst_take_ge (l : List UInt8) (m : Nat) (hm : fstN l ≤ m) (h0 : m ≠ 0) : fstN (l.take m) = fstN l ∧ fstK (l.take m) = fstK l := by
  have hh := head_take l m h0
  refine ⟨?_, by unfold fstK; rw [hh]⟩
  generalize hc : l.headD 0 = c at hh
  cases b1 : isL (c.toNat : Int)
  · cases b2 : isD (c.toNat : Int)
    · cases b3 : isS (c.toNat : Int)
      · by_cases b4 : (c.toNat : Int) = 35
        · have e : ∀ t : List UInt8, t.headD 0 = c → fstN t = runN isC t := fun t h => by simp only [fstN, h, b1, b2, b3, if_pos b4, Bool.false_eq_true, if_false]
          rw [e _ hh, e _ hc, runN_take_ge _ _ _ (by rw [← e _ hc]; exact hm)]
        · have e : ∀ t : List UInt8, t.headD 0 = c → fstN t = sgn t := fun t h => by simp only [fstN, h, b1, b2, b3, if_neg b4, Bool.false_eq_true, if_false]
          rw [e _ hh, e _ hc, sgn_take_ge _ _ (by rw [← e _ hc]; exact hm) h0]
      · have e : ∀ t : List UInt8, t.headD 0 = c → fstN t = runN isS t := fun t h => by simp only [fstN, h, b1, b2, b3, if_true, Bool.false_eq_true, if_false]
        rw [e _ hh, e _ hc, runN_take_ge _ _ _ (by rw [← e _ hc]; exact hm)]
    · have e : ∀ t : List UInt8, t.headD 0 = c → fstN t = runN isD t := fun t h => by simp only [fstN, h, b1, b2, if_true, Bool.false_eq_true, if_false]
      rw [e _ hh, e _ hc, runN_take_ge _ _ _ (by rw [← e _ hc]; exact hm)]
  · have e : ∀ t : List UInt8, t.headD 0 = c → fstN t = runN isW t := fun t h => by simp only [fstN, h, b1, if_true]
    rw [e _ hh, e _ hc, runN_take_ge _ _ _ (by rw [← e _ hc]; exact hm)]
/-- what the tokens make up -/
def join (ts : List Tok) : List UInt8 := ts.flatMap (·.t)
theorem lossless : ∀ (f : Nat) (l : List UInt8) (pos : Nat) (ts : List Tok), l.length ≤ f → lexL f l pos = (ts, none) → join ts = l := by
  intro f
  induction f with
  | zero => intro l pos ts h e; have : l = [] := List.length_eq_zero_iff.1 (by omega); subst this; cases e; rfl
  | succ f ih =>
    intro l pos ts h e
    match l, h, e with
    | [], _, e => cases e; rfl
    | c :: l, h, e =>
      simp only [lexL] at e
      by_cases h0 : fstN (c :: l) = 0
      · rw [if_pos h0] at e; cases e
      · rw [if_neg h0] at e
        simp only [Prod.mk.injEq] at e
        obtain ⟨e1, e2⟩ := e
        have hd : ((c :: l).drop (fstN (c :: l))).length ≤ f := by rw [List.length_drop]; simp at h ⊢; omega
        have := ih _ _ (lexL f ((c :: l).drop (fstN (c :: l))) (pos + fstN (c :: l))).1 hd (by rw [← e2])
        rw [← e1]
        unfold join at *
        rw [List.flatMap_cons, this]
        exact List.take_append_drop _ _
/-- an error: the bytes ahead of it are the tokens, and no token starts there -/
theorem lexL_error : ∀ (f : Nat) (l : List UInt8) (pos : Nat) (ts : List Tok) (a : Nat), l.length ≤ f → lexL f l pos = (ts, some a) →
    ∃ k, a = pos + k ∧ k < l.length ∧ fstN (l.drop k) = 0 ∧ join ts = l.take k ∧ lexR (l.take k) pos = (ts, none) := by
  intro f
  induction f with
  | zero => intro l pos ts a h e; cases e
  | succ f ih =>
    intro l pos ts a h e
    match l, h, e with
    | [], _, e => cases e
    | c :: l, h, e =>
      simp only [lexL] at e
      by_cases h0 : fstN (c :: l) = 0
      · rw [if_pos h0] at e
        cases e
        exact ⟨0, rfl, by simp, h0, rfl, rfl⟩
      · rw [if_neg h0] at e
        simp only [Prod.mk.injEq] at e
        obtain ⟨e1, e2⟩ := e
        have hle := fstN_le (c :: l) (by simp)
        have hd : ((c :: l).drop (fstN (c :: l))).length ≤ f := by rw [List.length_drop]; simp at h ⊢; omega
        obtain ⟨k, h1, h2, h3, h4, h5⟩ := ih _ _ (lexL f ((c :: l).drop (fstN (c :: l))) (pos + fstN (c :: l))).1 a hd (by rw [← e2])
        rw [List.length_drop] at h2
        rw [List.drop_drop] at h3
        have htk : (c :: l).take (fstN (c :: l) + k) ≠ [] := by
          intro e
          have := congrArg List.length e
          rw [List.length_take] at this
          simp at this; omega
        obtain ⟨g1, g2⟩ := fst_take_ge (c :: l) (fstN (c :: l) + k) (by omega) (by omega)
        refine ⟨fstN (c :: l) + k, by omega, by omega, h3, ?_, ?_⟩
        · rw [← e1]
          unfold join at *
          rw [List.flatMap_cons, h4, ← List.take_add]
        · rw [lexR_cons htk pos (by rw [g1]; exact h0), g1, g2, ← e1]
          have t1 : ((c :: l).take (fstN (c :: l) + k)).take (fstN (c :: l)) = (c :: l).take (fstN (c :: l)) := by rw [List.take_take, Nat.min_eq_left (by omega)]
          have t2 : ((c :: l).take (fstN (c :: l) + k)).drop (fstN (c :: l)) = ((c :: l).drop (fstN (c :: l))).take k := by rw [List.drop_take]; congr 1; omega
          rw [t1, t2, h5]
end Go.Proofs.Yteofoakkgkhjcaa
