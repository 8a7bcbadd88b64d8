/- The reference's token kinds: the longest piece with a kind is the first token. No program here. -/
import Derived.Test.YteofoakkgkhjcaaPos
import Derived.Lib.IndexAny
namespace Go.Proofs.Yteofoakkgkhjcaa
set_option linter.unusedVariables false
set_option linter.unusedSimpArgs false

/-- does p hold of every byte? -/
def allB (p : Int → Bool) (l : List UInt8) : Bool := l.all fun c => p (c.toNat : Int)
def signs : List (List UInt8) := [[60, 61, 62], [58, 61], [43, 61], [45, 61], [94, 61], [61, 61], [33, 61], [60, 61], [62, 61], [38, 38], [124, 124], [43], [45], [42], [47], [37], [38], [124], [94], [33], [61], [60], [62], [40], [41], [123], [125], [91], [93], [59], [44]]
/-- the kind of a text -/
def kindR (l : List UInt8) : Int :=
  if l = [] then 0 else if (isL ((l.headD 0).toNat : Int) && allB isW l) = true then 1 else if allB isD l = true then 2 else if l ∈ signs then 3
  else if allB isS l = true then 4 else if (((l.headD 0).toNat : Int) == 35 && allB isC l) = true then 5 else 0
theorem allB_head {p : Int → Bool} {l : List UInt8} (hl : l ≠ []) (h : allB p l = true) : p ((l.headD 0).toNat : Int) = true := by
  match l, hl with
  | c :: l, _ => unfold allB at h; rw [List.all_cons, Bool.and_eq_true] at h; exact h.1
theorem allB_take (p : Int → Bool) : ∀ (l : List UInt8) (n : Nat), n ≤ l.length → (allB p (l.take n) = true ↔ n ≤ runN p l) := by
  intro l
  induction l with
  | nil => intro n hn; simp at hn; subst hn; simp [allB]
  | cons c l ih =>
    intro n hn
    cases n with
    | zero => simp [allB]
    | succ n =>
      have := ih n (by simpa using hn)
      unfold allB runN at *
      rw [List.take_succ_cons, List.all_cons, List.takeWhile_cons, Bool.and_eq_true, this]
      by_cases h : p (c.toNat : Int) = true
      · rw [if_pos h, List.length_cons]; simp [h]
      · rw [if_neg h]; simp [h]
theorem signs_head : ∀ s ∈ signs, isL ((s.headD 0).toNat : Int) = false ∧ isD ((s.headD 0).toNat : Int) = false ∧ isS ((s.headD 0).toNat : Int) = false ∧ (((s.headD 0).toNat : Int) == 35) = false ∧ s ≠ [] := by decide
theorem signs_split : ∀ s ∈ signs, s = [60, 61, 62] ∨ s ∈ two ∨ (s.length = 1 ∧ s.headD 0 ∈ singles) := by decide
theorem two_signs : ∀ s ∈ two, s ∈ signs ∧ s.length = 2 := by decide
theorem singles_signs : ∀ c ∈ singles, [c] ∈ signs := by decide
theorem index_nonneg : ∀ (l : List UInt8) (c : UInt8), 0 ≤ Lib.indexByte l c ↔ c ∈ l := fun l c => by have h := Lib.contains_iff_indexByte l c; rw [← List.contains_iff_mem, h]; simp
theorem kind_pos {l : List UInt8} (h : kindR l ≠ 0) : l ≠ [] := fun e => h (by subst e; rfl)
theorem kind_letter {l : List UInt8} (hl : l ≠ []) (b : isL ((l.headD 0).toNat : Int) = true) : kindR l = if allB isW l = true then 1 else 0 := by
  have nd : isD ((l.headD 0).toNat : Int) = false := by unfold isL isD at *; simp at b ⊢; omega
  have ns : isS ((l.headD 0).toNat : Int) = false := by unfold isL isS at *; simp at b ⊢; omega
  have nc : (((l.headD 0).toNat : Int) == 35) = false := by unfold isL at b; simp at b ⊢; omega
  have h2 : ¬ allB isD l = true := fun h => by have := allB_head hl h; rw [nd] at this; cases this
  have h3 : l ∉ signs := fun h => by have := (signs_head l h).1; rw [b] at this; cases this
  have h4 : ¬ allB isS l = true := fun h => by have := allB_head hl h; rw [ns] at this; cases this
  unfold kindR
  rw [if_neg hl, b, Bool.true_and, if_neg h2, if_neg h3, if_neg h4, nc, Bool.false_and]
  simp
theorem kind_digit {l : List UInt8} (hl : l ≠ []) (b : isD ((l.headD 0).toNat : Int) = true) : kindR l = if allB isD l = true then 2 else 0 := by
  have nd : isL ((l.headD 0).toNat : Int) = false := by unfold isL isD at *; simp at b ⊢; omega
  have ns : isS ((l.headD 0).toNat : Int) = false := by unfold isD isS at *; simp at b ⊢; omega
  have nc : (((l.headD 0).toNat : Int) == 35) = false := by unfold isD at b; simp at b ⊢; omega
  have h3 : l ∉ signs := fun h => by have := (signs_head l h).2.1; rw [b] at this; cases this
  have h4 : ¬ allB isS l = true := fun h => by have := allB_head hl h; rw [ns] at this; cases this
  unfold kindR
  rw [if_neg hl, nd, Bool.false_and, if_neg (by simp), if_neg h3, if_neg h4, nc, Bool.false_and]
  simp
theorem kind_space {l : List UInt8} (hl : l ≠ []) (b : isS ((l.headD 0).toNat : Int) = true) : kindR l = if allB isS l = true then 4 else 0 := by
  have nd : isL ((l.headD 0).toNat : Int) = false := by
    cases h : isL ((l.headD 0).toNat : Int)
    · rfl
    · unfold isL isS at *; simp at b h; omega
  have ns : isD ((l.headD 0).toNat : Int) = false := by
    cases h : isD ((l.headD 0).toNat : Int)
    · rfl
    · unfold isD isS at *; simp at b h; omega
  have nc : (((l.headD 0).toNat : Int) == 35) = false := by
    cases h : ((l.headD 0).toNat : Int) == 35
    · rfl
    · unfold isS at b; simp at b h; omega
  have h2 : ¬ allB isD l = true := fun h => by have := allB_head hl h; rw [ns] at this; cases this
  have h3 : l ∉ signs := fun h => by have := (signs_head l h).2.2.1; rw [b] at this; cases this
  unfold kindR
  rw [if_neg hl, nd, Bool.false_and, if_neg (by simp), if_neg h2, if_neg h3, nc, Bool.false_and]
  simp
theorem kind_comment {l : List UInt8} (hl : l ≠ []) (b : (((l.headD 0).toNat : Int) == 35) = true) : kindR l = if allB isC l = true then 5 else 0 := by
  have b5 : ((l.headD 0).toNat : Int) = 35 := by simpa using b
  have nd : isL ((l.headD 0).toNat : Int) = false := by rw [b5]; rfl
  have ns : isD ((l.headD 0).toNat : Int) = false := by rw [b5]; rfl
  have nc : isS ((l.headD 0).toNat : Int) = false := by rw [b5]; rfl
  have h2 : ¬ allB isD l = true := fun h => by have := allB_head hl h; rw [ns] at this; cases this
  have h3 : l ∉ signs := fun h => by have := (signs_head l h).2.2.2.1; rw [b] at this; cases this
  have h4 : ¬ allB isS l = true := fun h => by have := allB_head hl h; rw [nc] at this; cases this
  unfold kindR
  rw [if_neg hl, nd, Bool.false_and, if_neg (by simp), if_neg h2, if_neg h3, if_neg h4, b, Bool.true_and]
theorem kind_sign {l : List UInt8} (hl : l ≠ []) (b1 : isL ((l.headD 0).toNat : Int) = false) (b2 : isD ((l.headD 0).toNat : Int) = false) (b3 : isS ((l.headD 0).toNat : Int) = false) (b4 : (((l.headD 0).toNat : Int) == 35) = false) :
    kindR l = if l ∈ signs then 3 else 0 := by
  have h2 : ¬ allB isD l = true := fun h => by have := allB_head hl h; rw [b2] at this; cases this
  have h4 : ¬ allB isS l = true := fun h => by have := allB_head hl h; rw [b3] at this; cases this
  unfold kindR
  rw [if_neg hl, b1, Bool.false_and, if_neg (by simp), if_neg h2, if_neg h4, b4, Bool.false_and]
  simp
theorem sgn_hit (l : List UInt8) (h : sgn l ≠ 0) : l.take (sgn l) ∈ signs := by
  by_cases hp : Lib.hasPrefix l [60, 61, 62] = true
  · have e : sgn l = 3 := by unfold sgn; rw [if_pos hp]
    have : l.take 3 = [60, 61, 62] := by
      unfold Lib.hasPrefix at hp
      obtain ⟨r, hr⟩ := List.isPrefixOf_iff_prefix.1 hp
      rw [← hr]; rfl
    rw [e, this]; decide
  · by_cases ht : l.take 2 ∈ two
    · have e : sgn l = 2 := by unfold sgn; rw [if_neg hp, if_pos ht]
      rw [e]; exact (two_signs _ ht).1
    · by_cases hi : 0 ≤ Lib.indexByte singles (l.headD 0)
      · have e : sgn l = 1 := by unfold sgn; rw [if_neg hp, if_neg ht, if_pos hi]
        rw [e]
        match l with
        | [] => exact absurd ((index_nonneg _ _).1 hi) (by decide)
        | c :: l => exact singles_signs c ((index_nonneg _ _).1 hi)
      · exact absurd (by unfold sgn; rw [if_neg hp, if_neg ht, if_neg hi]) h
theorem sgn_miss (l : List UInt8) (n : Nat) (hn : sgn l < n) (hl : n ≤ l.length) : l.take n ∉ signs := by
  intro h
  have hlen : (l.take n).length = n := by rw [List.length_take]; omega
  rcases signs_split _ h with h | h | ⟨h, h2⟩
  · have h3 : n = 3 := by rw [h] at hlen; exact hlen.symm
    have hp : Lib.hasPrefix l [60, 61, 62] = true := by
      unfold Lib.hasPrefix
      apply List.isPrefixOf_iff_prefix.2
      rw [← h]; exact List.take_prefix _ _
    have e : sgn l = 3 := by unfold sgn; rw [if_pos hp]
    omega
  · have h3 : n = 2 := by rw [← hlen]; exact (two_signs _ h).2
    subst h3
    unfold sgn at hn
    by_cases hp : Lib.hasPrefix l [60, 61, 62] = true
    · rw [if_pos hp] at hn; omega
    · rw [if_neg hp, if_pos h] at hn; omega
  · have h3 : n = 1 := by omega
    subst h3
    rw [head_take l 1 (by omega)] at h2
    unfold sgn at hn
    rw [if_pos ((index_nonneg _ _).2 h2)] at hn
    split at hn
    · omega
    · split at hn <;> omega
/-- no longer piece has a kind, and the piece itself has the token's kind -/
theorem kind_first (l : List UInt8) (hl : l ≠ []) :
    (∀ n, fstN l < n → n ≤ l.length → kindR (l.take n) = 0) ∧ (fstN l ≠ 0 → kindR (l.take (fstN l)) = fstK l) := by
  have hle := fstN_le l hl
  have hne : ∀ n, n ≠ 0 → l.take n ≠ [] := fun n h0 e => by
    match l, n, hl, h0 with
    | _ :: _, n + 1, _, _ => cases e
  have key : ∀ (p : Int → Bool) (k : Int), (∀ t : List UInt8, t ≠ [] → t.headD 0 = l.headD 0 → kindR t = if allB p t = true then k else 0) → fstN l = runN p l → fstK l = k →
      (∀ n, fstN l < n → n ≤ l.length → kindR (l.take n) = 0) ∧ (fstN l ≠ 0 → kindR (l.take (fstN l)) = fstK l) := by
    intro p k hk h1 h2
    refine ⟨fun n hn hnl => ?_, fun h0 => ?_⟩
    · rw [hk _ (hne n (by omega)) (head_take l n (by omega)), if_neg]
      rw [allB_take p l n hnl]; omega
    · rw [hk _ (hne _ h0) (head_take l _ h0), if_pos, h2]
      rw [allB_take p l _ hle]; omega
  generalize hc : l.headD 0 = c at key
  cases b1 : isL (c.toNat : Int)
  · cases b2 : isD (c.toNat : Int)
    · cases b3 : isS (c.toNat : Int)
      · cases b4 : ((c.toNat : Int) == 35)
        · have b5 : ¬ (c.toNat : Int) = 35 := by simpa using b4
          have e1 : fstN l = sgn l := by simp only [fstN, hc, b1, b2, b3, if_neg b5, Bool.false_eq_true, if_false]
          have e2 : fstK l = 3 := by simp only [fstK, hc, b1, b2, b3, if_neg b5, Bool.false_eq_true, if_false]
          have hk : ∀ t : List UInt8, t ≠ [] → t.headD 0 = c → kindR t = if t ∈ signs then 3 else 0 := fun t ht hh => kind_sign ht (by rw [hh]; exact b1) (by rw [hh]; exact b2) (by rw [hh]; exact b3) (by rw [hh]; exact b4)
          refine ⟨fun n hn hnl => ?_, fun h0 => ?_⟩
          · rw [hk _ (hne n (by omega)) (by rw [head_take l n (by omega)]; exact hc), if_neg]
            exact sgn_miss l n (by omega) hnl
          · rw [hk _ (hne _ h0) (by rw [head_take l _ h0]; exact hc), if_pos, e2]
            rw [e1]; exact sgn_hit l (by rw [← e1]; exact h0)
        · have b5 : (c.toNat : Int) = 35 := by simpa using b4
          exact key isC 5 (fun t ht hh => kind_comment ht (by rw [hh]; exact b4)) (by simp only [fstN, hc, b1, b2, b3, if_pos b5, Bool.false_eq_true, if_false]) (by simp only [fstK, hc, b1, b2, b3, if_pos b5, Bool.false_eq_true, if_false])
      · exact key isS 4 (fun t ht hh => kind_space ht (by rw [hh]; exact b3)) (by simp only [fstN, hc, b1, b2, b3, if_true, Bool.false_eq_true, if_false]) (by simp only [fstK, hc, b1, b2, b3, if_true, Bool.false_eq_true, if_false])
    · exact key isD 2 (fun t ht hh => kind_digit ht (by rw [hh]; exact b2)) (by simp only [fstN, hc, b1, b2, if_true, Bool.false_eq_true, if_false]) (by simp only [fstK, hc, b1, b2, if_true, Bool.false_eq_true, if_false])
  · exact key isW 1 (fun t ht hh => kind_letter ht (by rw [hh]; exact b1)) (by simp only [fstN, hc, b1, if_true]) (by simp only [fstK, hc, b1, if_true])
/-- the greatest n up to k with p n, or 0 -/
def bestN (p : Nat → Bool) : Nat → Nat
  | 0 => 0
  | k + 1 => if p (k + 1) = true then k + 1 else bestN p k
theorem bestN_eq (p : Nat → Bool) : ∀ (k N : Nat), N ≤ k → (N ≠ 0 → p N = true) → (∀ n, N < n → n ≤ k → p n = false) → bestN p k = N := by
  intro k
  induction k with
  | zero => intro N h _ _; unfold bestN; omega
  | succ k ih =>
    intro N h h1 h2
    unfold bestN
    by_cases e : N = k + 1
    · rw [if_pos (by rw [← e]; exact h1 (by omega)), e]
    · rw [if_neg (by rw [h2 (k + 1) (by omega) (Nat.le_refl _)]; simp)]
      exact ih N (by omega) h1 (fun n hn hnk => h2 n hn (by omega))
theorem best_first (l : List UInt8) (hl : l ≠ []) : bestN (fun n => kindR (l.take n) != 0) l.length = fstN l := by
  obtain ⟨h1, h2⟩ := kind_first l hl
  refine bestN_eq _ _ _ (fstN_le l hl) (fun h0 => ?_) (fun n hn hnl => by rw [h1 n hn hnl]; rfl)
  rw [h2 h0]
  simp only [bne_iff_ne, ne_eq]
  unfold fstK
  intro e
  simp only at e
  split at e
  · cases e
  · split at e
    · cases e
    · split at e
      · cases e
      · split at e <;> cases e
end Go.Proofs.Yteofoakkgkhjcaa
