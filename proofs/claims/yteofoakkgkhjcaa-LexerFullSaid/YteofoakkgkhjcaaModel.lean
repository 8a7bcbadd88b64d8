/- The whole lexer as a plain function. No program here. -/
import Derived.Test.YteofoakkgkhjcaaPlain
namespace Go.Proofs.Yteofoakkgkhjcaa
structure Tok where
  k : Int
  t : List UInt8
  p : Nat
/-- tokens, and the place of the first byte at which no token starts -/
def lexL : Nat → List UInt8 → Nat → List Tok × Option Nat
  | 0, _, _ => ([], none)
  | _ + 1, [], _ => ([], none)
  | f + 1, c :: l, pos => if fstN (c :: l) = 0 then ([], some pos) else
      (⟨fstK (c :: l), (c :: l).take (fstN (c :: l)), pos⟩ :: (lexL f ((c :: l).drop (fstN (c :: l))) (pos + fstN (c :: l))).1, (lexL f ((c :: l).drop (fstN (c :: l))) (pos + fstN (c :: l))).2)
theorem sgn_le (l : List UInt8) (h : l ≠ []) : sgn l ≤ l.length := by
  unfold sgn
  split
  · rename_i hp
    unfold Lib.hasPrefix at hp
    have := (List.isPrefixOf_iff_prefix.1 hp).length_le
    simpa using this
  · split
    · rename_i ht
      have h2 : (l.take 2).length = 2 := by
        simp only [two, List.mem_cons, List.not_mem_nil, or_false] at ht
        rcases ht with h | h | h | h | h | h | h | h | h | h <;> rw [h] <;> rfl
      rw [List.length_take] at h2; omega
    · split
      · have : 0 < l.length := List.length_pos_iff.2 h
        omega
      · omega
theorem fstN_le (l : List UInt8) (h : l ≠ []) : fstN l ≤ l.length := by
  unfold fstN
  have h1 := runN_le isW l
  have h2 := runN_le isD l
  have h3 := runN_le isS l
  have h4 := runN_le isC l
  have h5 := sgn_le l h
  show (if _ then _ else _) ≤ _
  repeat' split
  all_goals assumption
theorem lexL_fuel : ∀ (f g : Nat) (l : List UInt8) (pos : Nat), l.length ≤ f → l.length ≤ g → lexL f l pos = lexL g l pos := by
  intro f
  induction f with
  | zero =>
    intro g l pos h _
    have : l = [] := List.length_eq_zero_iff.1 (by omega)
    subst this
    cases g <;> rfl
  | succ f ih =>
    intro g l pos h hg
    match l, g with
    | [], 0 => rfl
    | [], g + 1 => rfl
    | c :: l, 0 => simp at hg
    | c :: l, g + 1 =>
      simp only [lexL]
      by_cases h0 : fstN (c :: l) = 0
      · rw [if_pos h0, if_pos h0]
      · rw [if_neg h0, if_neg h0]
        have hd : ((c :: l).drop (fstN (c :: l))).length ≤ l.length := by rw [List.length_drop]; simp; omega
        simp only [List.length_cons] at h hg
        rw [ih g _ _ (by omega) (by omega)]
def lexR (l : List UInt8) (pos : Nat) : List Tok × Option Nat := lexL l.length l pos
theorem lexR_nil (pos : Nat) : lexR [] pos = ([], none) := rfl
theorem lexR_bad {l : List UInt8} (hl : l ≠ []) (pos : Nat) (h : fstN l = 0) : lexR l pos = ([], some pos) := by
  match l, hl with
  | c :: l, _ =>
    unfold lexR
    simp only [List.length_cons, lexL]
    rw [if_pos h]
theorem lexR_cons {l : List UInt8} (hl : l ≠ []) (pos : Nat) (h : ¬ fstN l = 0) :
    lexR l pos = (⟨fstK l, l.take (fstN l), pos⟩ :: (lexR (l.drop (fstN l)) (pos + fstN l)).1, (lexR (l.drop (fstN l)) (pos + fstN l)).2) := by
  match l, hl with
  | c :: l, _ =>
    have hd : ((c :: l).drop (fstN (c :: l))).length ≤ l.length := by rw [List.length_drop]; simp; omega
    unfold lexR
    simp only [List.length_cons, lexL]
    rw [if_neg h, lexL_fuel l.length _ _ _ hd (Nat.le_refl _)]
end Go.Proofs.Yteofoakkgkhjcaa
