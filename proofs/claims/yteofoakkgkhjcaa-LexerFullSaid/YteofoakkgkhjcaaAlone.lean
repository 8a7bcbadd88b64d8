/- The text of a token is read as that token alone. No program here. -/
import Derived.Test.YteofoakkgkhjcaaModel
namespace Go.Proofs.Yteofoakkgkhjcaa
theorem runN_take (p : Int → Bool) : ∀ l : List UInt8, runN p (l.take (runN p l)) = runN p l := by
  intro l
  induction l with
  | nil => rfl
  | cons c l ih =>
    unfold runN at *
    rw [List.takeWhile_cons]
    by_cases h : p (c.toNat : Int) = true
    · rw [if_pos h, List.length_cons, List.take_succ_cons, List.takeWhile_cons, if_pos h, List.length_cons, ih]
    · rw [if_neg h]; rfl
theorem head_take (l : List UInt8) (n : Nat) (hn : n ≠ 0) : (l.take n).headD 0 = l.headD 0 := by
  match l, n with
  | [], _ => simp
  | c :: l, n + 1 => rfl
  | _ :: _, 0 => exact absurd rfl hn
theorem two_take {l : List UInt8} (h : l.take 2 ∈ two) : (l.take 2).length = 2 := by
  simp only [two, List.mem_cons, List.not_mem_nil, or_false] at h
  rcases h with h | h | h | h | h | h | h | h | h | h <;> rw [h] <;> rfl
theorem pre_len {l p : List UInt8} (h : Lib.hasPrefix l p = true) : p.length ≤ l.length := by
  unfold Lib.hasPrefix at h
  exact (List.isPrefixOf_iff_prefix.1 h).length_le
theorem sgn_take (l : List UInt8) (hn : sgn l ≠ 0) : sgn (l.take (sgn l)) = sgn l := by
  by_cases hp : Lib.hasPrefix l [60, 61, 62] = true
  · have e : sgn l = 3 := by unfold sgn; rw [if_pos hp]
    rw [e]
    unfold sgn
    have : l.take 3 = [60, 61, 62] := by
      unfold Lib.hasPrefix at hp
      obtain ⟨r, hr⟩ := List.isPrefixOf_iff_prefix.1 hp
      rw [← hr]; rfl
    rw [this]; rfl
  · by_cases ht : l.take 2 ∈ two
    · have e : sgn l = 2 := by unfold sgn; rw [if_neg hp, if_pos ht]
      rw [e]
      have h2 := two_take ht
      unfold sgn
      rw [if_neg, if_pos]
      · rw [List.take_take]; exact ht
      · intro h
        have := pre_len h
        rw [h2] at this; simp at this
    · by_cases hi : 0 ≤ Lib.indexByte singles (l.headD 0)
      · have e : sgn l = 1 := by unfold sgn; rw [if_neg hp, if_neg ht, if_pos hi]
        rw [e]
        unfold sgn
        rw [if_neg, if_neg, if_pos]
        · rw [head_take l 1 (by omega)]; exact hi
        · intro h
          have h2 := two_take h
          rw [List.take_take, List.length_take] at h2
          omega
        · intro h
          have := pre_len h
          rw [List.length_take] at this
          simp at this
          omega
      · exact absurd (by unfold sgn; rw [if_neg hp, if_neg ht, if_neg hi]) hn
theorem fst_take (l : List UInt8) (hn : fstN l ≠ 0) : fstN (l.take (fstN l)) = fstN l ∧ fstK (l.take (fstN l)) = fstK l := by
  have hh := head_take l (fstN l) hn
  have key : ∀ t : List UInt8, t.headD 0 = l.headD 0 → fstK t = fstK l := fun t h => by unfold fstK; rw [h]
  refine ⟨?_, key _ hh⟩
  generalize hc : l.headD 0 = c at hh
  generalize ht : l.take (fstN l) = t at hh
  cases b1 : isL (c.toNat : Int)
  · cases b2 : isD (c.toNat : Int)
    · cases b3 : isS (c.toNat : Int)
      · by_cases b4 : (c.toNat : Int) = 35
        · have e1 : fstN l = runN isC l := by simp only [fstN, hc, b1, b2, b3, if_pos b4, Bool.false_eq_true, if_false]
          have e2 : fstN t = runN isC t := by simp only [fstN, hh, b1, b2, b3, if_pos b4, Bool.false_eq_true, if_false]
          rw [e2, ← ht, e1, runN_take]
        · have e1 : fstN l = sgn l := by simp only [fstN, hc, b1, b2, b3, if_neg b4, Bool.false_eq_true, if_false]
          have e2 : fstN t = sgn t := by simp only [fstN, hh, b1, b2, b3, if_neg b4, Bool.false_eq_true, if_false]
          rw [e2, ← ht, e1, sgn_take l (by rw [← e1]; exact hn)]
      · have e1 : fstN l = runN isS l := by simp only [fstN, hc, b1, b2, b3, if_true, Bool.false_eq_true, if_false]
        have e2 : fstN t = runN isS t := by simp only [fstN, hh, b1, b2, b3, if_true, Bool.false_eq_true, if_false]
        rw [e2, ← ht, e1, runN_take]
    · have e1 : fstN l = runN isD l := by simp only [fstN, hc, b1, b2, if_true, Bool.false_eq_true, if_false]
      have e2 : fstN t = runN isD t := by simp only [fstN, hh, b1, b2, if_true, Bool.false_eq_true, if_false]
      rw [e2, ← ht, e1, runN_take]
  · have e1 : fstN l = runN isW l := by simp only [fstN, hc, b1, if_true]
    have e2 : fstN t = runN isW t := by simp only [fstN, hh, b1, if_true]
    rw [e2, ← ht, e1, runN_take]
/-- where a token comes from -/
theorem tok_from : ∀ (f : Nat) (l : List UInt8) (pos : Nat) (x : Tok), x ∈ (lexL f l pos).1 → ∃ m : List UInt8, m ≠ [] ∧ m.length ≤ l.length ∧ fstN m ≠ 0 ∧ x.k = fstK m ∧ x.t = m.take (fstN m) := by
  intro f
  induction f with
  | zero => intro l pos x h; simp [lexL] at h
  | succ f ih =>
    intro l pos x h
    match l with
    | [] => simp [lexL] at h
    | c :: l =>
      simp only [lexL] at h
      by_cases h0 : fstN (c :: l) = 0
      · rw [if_pos h0] at h; simp at h
      · rw [if_neg h0] at h
        rcases List.mem_cons.1 h with rfl | h
        · exact ⟨c :: l, by simp, Nat.le_refl _, h0, rfl, rfl⟩
        · obtain ⟨m, h1, h2, h3⟩ := ih _ _ _ h
          exact ⟨m, h1, Nat.le_trans h2 (by rw [List.length_drop]; omega), h3⟩
theorem lexL_len : ∀ (f : Nat) (l : List UInt8) (pos : Nat), (lexL f l pos).1.length ≤ l.length := by
  intro f
  induction f with
  | zero => intro l pos; simp [lexL]
  | succ f ih =>
    intro l pos
    match l with
    | [] => simp [lexL]
    | c :: l =>
      simp only [lexL]
      by_cases h0 : fstN (c :: l) = 0
      · rw [if_pos h0]; simp
      · rw [if_neg h0]
        have := ih ((c :: l).drop (fstN (c :: l))) (pos + fstN (c :: l))
        rw [List.length_drop] at this
        simp only [List.length_cons] at *
        omega
theorem lexR_len (l : List UInt8) (pos : Nat) : (lexR l pos).1.length ≤ l.length := lexL_len _ _ _
theorem tok_alone {l : List UInt8} {pos : Nat} {x : Tok} (h : x ∈ (lexR l pos).1) : lexR x.t 0 = ([⟨x.k, x.t, 0⟩], none) ∧ x.t.length ≤ l.length ∧ x.t ≠ [] := by
  obtain ⟨m, h1, h2, h3, hk, ht⟩ := tok_from _ _ _ _ h
  have hle := fstN_le m h1
  obtain ⟨e1, e2⟩ := fst_take m h3
  have hlen : x.t.length = fstN m := by rw [ht, List.length_take]; omega
  have hne : x.t ≠ [] := fun e => by rw [e] at hlen; simp at hlen; omega
  refine ⟨?_, by omega, hne⟩
  have n1 : fstN x.t = x.t.length := by rw [hlen, ht, e1]
  rw [lexR_cons hne 0 (by rw [n1, hlen]; exact h3), n1, List.take_length, List.drop_length, lexR_nil, ht, e2, hk]
end Go.Proofs.Yteofoakkgkhjcaa
