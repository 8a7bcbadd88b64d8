/- Two texts with a line feed between them; the tokens that are neither spaces nor comments. No program here. -/
import Derived.Test.YteofoakkgkhjcaaKind
namespace Go.Proofs.Yteofoakkgkhjcaa
set_option linter.unusedVariables false
set_option linter.unusedSimpArgs false

def isSolid (t : Tok) : Bool := t.k != 4 && t.k != 5
def solid (ts : List Tok) : List Tok := ts.filter isSolid
theorem runN_app (p : Int → Bool) (h10 : p 10 = false) (b : List UInt8) : ∀ a : List UInt8, runN p (a ++ 10 :: b) = runN p a := by
  intro a
  induction a with
  | nil => unfold runN; rw [List.nil_append, List.takeWhile_cons, if_neg (by show ¬ p 10 = true; rw [h10]; simp)]; rfl
  | cons c a ih =>
    unfold runN at *
    rw [List.cons_append, List.takeWhile_cons, List.takeWhile_cons]
    split
    · rw [List.length_cons, List.length_cons, ih]
    · rfl
theorem runN_app_lt (p : Int → Bool) (b : List UInt8) : ∀ a : List UInt8, runN p a < a.length → runN p (a ++ b) = runN p a := by
  intro a
  induction a with
  | nil => intro h; simp at h
  | cons c a ih =>
    intro h
    unfold runN at *
    rw [List.takeWhile_cons] at h
    rw [List.cons_append, List.takeWhile_cons, List.takeWhile_cons]
    split
    · rename_i hp
      rw [if_pos hp] at h
      rw [List.length_cons, List.length_cons, ih (by simpa using h)]
    · rfl
theorem runN_app_all (p : Int → Bool) (b : List UInt8) : ∀ a : List UInt8, runN p a = a.length → runN p (a ++ b) = a.length + runN p b := by
  intro a
  induction a with
  | nil => intro _; simp
  | cons c a ih =>
    intro h
    unfold runN at *
    rw [List.takeWhile_cons] at h
    rw [List.cons_append, List.takeWhile_cons]
    split
    · rename_i hp
      rw [if_pos hp] at h
      rw [List.length_cons, ih (by simpa using h), List.length_cons]; omega
    · rename_i hp
      rw [if_neg hp] at h; simp at h
theorem head_app (a b : List UInt8) (h : a ≠ []) : (a ++ b).headD 0 = a.headD 0 := by
  match a, h with
  | c :: a, _ => rfl
theorem two_no : ∀ s ∈ two, s[1]? ≠ some 10 := by decide
theorem sgn_app (a b : List UInt8) (h : a ≠ []) : sgn (a ++ 10 :: b) = sgn a := by
  have hp : Lib.hasPrefix (a ++ 10 :: b) [60, 61, 62] = Lib.hasPrefix a [60, 61, 62] := by
    unfold Lib.hasPrefix
    match a with
    | [] => rfl
    | [x] => simp [List.isPrefixOf]
    | [x, y] => simp [List.isPrefixOf]
    | x :: y :: z :: r => simp [List.isPrefixOf]
  have ht : (a ++ 10 :: b).take 2 ∈ two ↔ a.take 2 ∈ two := by
    match a, h with
    | [x], _ =>
      constructor
      · intro h; exact absurd rfl (two_no _ h)
      · intro h; have := two_take h; simp at this
    | x :: y :: r, _ => rfl
  unfold sgn
  rw [hp, head_app a _ h]
  simp only [ht]
theorem fst_app (a b : List UInt8) (h : a ≠ []) (hs : isS ((a.headD 0).toNat : Int) = false) : fstN (a ++ 10 :: b) = fstN a ∧ fstK (a ++ 10 :: b) = fstK a := by
  have hh := head_app a (10 :: b) h
  refine ⟨?_, by unfold fstK; rw [hh]⟩
  simp only [fstN, hh, runN_app isW rfl, runN_app isD rfl, runN_app isC rfl, sgn_app a b h, hs, Bool.false_eq_true, if_false]
theorem fst_app_space (a b : List UInt8) (h : a ≠ []) (hs : isS ((a.headD 0).toNat : Int) = true) (hlt : runN isS a < a.length) : fstN (a ++ 10 :: b) = fstN a ∧ fstK (a ++ 10 :: b) = fstK a := by
  have hh := head_app a (10 :: b) h
  refine ⟨?_, by unfold fstK; rw [hh]⟩
  simp only [fstN, hh, runN_app isW rfl, runN_app isD rfl, runN_app isC rfl, sgn_app a b h, runN_app_lt isS _ a hlt]
theorem space_not {c : Int} (hs : isS c = true) : isL c = false ∧ isD c = false := by
  unfold isS at hs
  simp at hs
  rcases hs with ((h | h) | h) | h <;> subst h <;> decide
theorem fst_spaces {l : List UInt8} (hs : isS ((l.headD 0).toNat : Int) = true) : fstN l = runN isS l ∧ fstK l = 4 := by
  obtain ⟨h1, h2⟩ := space_not hs
  simp only [fstN, fstK, h1, h2, hs, if_true, Bool.false_eq_true, if_false, and_self]
theorem runN_pos {p : Int → Bool} {l : List UInt8} (hl : l ≠ []) (h : p ((l.headD 0).toNat : Int) = true) : runN p l ≠ 0 := by
  match l, hl with
  | c :: l, _ => unfold runN; rw [List.takeWhile_cons, if_pos (show p (c.toNat : Int) = true from h)]; simp
theorem runN_zero {p : Int → Bool} {l : List UInt8} (h : runN p l ≠ 0) : l ≠ [] ∧ p ((l.headD 0).toNat : Int) = true := by
  match l with
  | [] => exact absurd rfl h
  | c :: l =>
    refine ⟨by simp, ?_⟩
    unfold runN at h
    rw [List.takeWhile_cons] at h
    by_cases hp : p (c.toNat : Int) = true
    · exact hp
    · rw [if_neg hp] at h; simp at h
/-- spaces ahead of b are one token with b's own -/
theorem lex_seam (r b : List UInt8) (pos : Nat) (hr : r ≠ []) (hs : runN isS r = r.length) :
    solid (lexR (r ++ b) pos).1 = solid (lexR b (pos + r.length)).1 ∧ (lexR (r ++ b) pos).2 = (lexR b (pos + r.length)).2 := by
  have hl : 0 < r.length := List.length_pos_iff.2 hr
  have hrs := runN_zero (p := isS) (l := r) (by omega)
  have hne : r ++ b ≠ [] := by simp [hr]
  have hh := head_app r b hr
  obtain ⟨f1, f2⟩ := fst_spaces (l := r ++ b) (by rw [hh]; exact hrs.2)
  have f3 := runN_app_all isS b r hs
  have f4 : fstN (r ++ b) = r.length + runN isS b := by rw [f1, f3]
  rw [lexR_cons hne pos (by omega), f4]
  have hd : (r ++ b).drop (r.length + runN isS b) = b.drop (runN isS b) := by rw [← List.drop_drop, List.drop_left]
  rw [hd]
  have hs4 : ∀ (t : List UInt8) (q : Nat) (ts : List Tok), solid (⟨4, t, q⟩ :: ts) = solid ts := fun t q ts => rfl
  rw [f2]
  by_cases hb : runN isS b = 0
  · rw [hb, List.drop_zero, Nat.add_zero]
    exact ⟨hs4 _ _ _, rfl⟩
  · obtain ⟨b1, b2⟩ := runN_zero hb
    obtain ⟨g1, g2⟩ := fst_spaces b2
    rw [lexR_cons b1 (pos + r.length) (by omega), g1, g2]
    have e : pos + (r.length + runN isS b) = pos + r.length + runN isS b := by omega
    rw [e]
    exact ⟨by rw [hs4, hs4], rfl⟩
theorem lex_lines (b : List UInt8) : ∀ (f : Nat) (a : List UInt8) (pos : Nat), a.length ≤ f →
    ((∃ p, (lexR a pos).2 = some p ∧ (lexR (a ++ 10 :: b) pos).2 = some p) ∨
     ((lexR a pos).2 = none ∧ solid (lexR (a ++ 10 :: b) pos).1 = solid (lexR a pos).1 ++ solid (lexR b (pos + a.length + 1)).1 ∧ (lexR (a ++ 10 :: b) pos).2 = (lexR b (pos + a.length + 1)).2)) := by
  intro f
  induction f with
  | zero =>
    intro a pos h
    have : a = [] := List.length_eq_zero_iff.1 (by omega)
    subst this
    right
    have := lex_seam [10] b pos (by simp) rfl
    exact ⟨rfl, this.1, this.2⟩
  | succ f ih =>
    intro a pos h
    by_cases ha : a = []
    · subst ha
      right
      have := lex_seam [10] b pos (by simp) rfl
      exact ⟨rfl, this.1, this.2⟩
    · have hne : a ++ 10 :: b ≠ [] := by simp
      have hle := fstN_le a ha
      by_cases hall : isS ((a.headD 0).toNat : Int) = true ∧ ¬ runN isS a < a.length
      · -- spaces alone: they run into the line feed
        have hr := runN_le isS a
        have heq : runN isS a = a.length := by omega
        obtain ⟨f1, f2⟩ := fst_spaces hall.1
        have hlen : 0 < a.length := List.length_pos_iff.2 ha
        have hx : lexR a pos = ([⟨4, a, pos⟩], none) := by
          rw [lexR_cons ha pos (by omega), f1, heq, List.take_length, List.drop_length, lexR_nil, f2]
        have := lex_seam (a ++ [10]) b pos (by simp) (by rw [runN_app_all isS [10] a heq, List.length_append]; rfl)
        rw [List.append_assoc, List.singleton_append, List.length_append] at this
        right
        rw [hx]
        exact ⟨rfl, this.1, this.2⟩
      · have hf : fstN (a ++ 10 :: b) = fstN a ∧ fstK (a ++ 10 :: b) = fstK a := by
          by_cases hs : isS ((a.headD 0).toNat : Int) = true
          · exact fst_app_space a b ha hs (by
              by_cases h2 : runN isS a < a.length
              · exact h2
              · exact absurd ⟨hs, h2⟩ hall)
          · exact fst_app a b ha (by simpa using hs)
        by_cases h0 : fstN a = 0
        · left
          refine ⟨pos, ?_, ?_⟩
          · rw [lexR_bad ha pos h0]
          · rw [lexR_bad hne pos (by rw [hf.1]; exact h0)]
        · have hd : (a ++ 10 :: b).drop (fstN a) = a.drop (fstN a) ++ 10 :: b := by rw [List.drop_append_of_le_length hle]
          have ht : (a ++ 10 :: b).take (fstN a) = a.take (fstN a) := by rw [List.take_append_of_le_length hle]
          rw [lexR_cons ha pos h0, lexR_cons hne pos (by rw [hf.1]; exact h0), hf.1, hf.2, hd, ht]
          have hlen2 : (a.drop (fstN a)).length ≤ f := by rw [List.length_drop]; omega
          rcases ih (a.drop (fstN a)) (pos + fstN a) hlen2 with ⟨p, h1, h2⟩ | ⟨h1, h2, h3⟩
          · left; exact ⟨p, h1, h2⟩
          · right
            have e : pos + fstN a + (a.drop (fstN a)).length + 1 = pos + a.length + 1 := by rw [List.length_drop]; omega
            rw [e] at h2 h3
            refine ⟨h1, ?_, h3⟩
            unfold solid at *
            rw [List.filter_cons, List.filter_cons, h2]
            split <;> simp
end Go.Proofs.Yteofoakkgkhjcaa
