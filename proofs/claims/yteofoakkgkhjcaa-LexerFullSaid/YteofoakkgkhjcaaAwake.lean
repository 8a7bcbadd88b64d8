/- Lex, as a caller meets it; and awake. -/
import Derived.Test.YteofoakkgkhjcaaRows
import Derived.WalkKit
import Derived.ProofKit
import Derived.OpenShut
import Derived.Below
import Derived.Lib.Hide
import Derived.WalkSpells
import Derived.WalkLawsBesides
import Derived.Outline
import Derived.Test.YteofoakkgkhjcaaLex
import Derived.Deep.AppendLies
import Derived.WalkSmall
namespace Go.Proofs.Yteofoakkgkhjcaa
open Go.ChangeShapes Go.WideShapes Go.ChangeAt Go.RowKit
set_option linter.unusedSimpArgs false
set_option linter.unusedVariables false
/-- the tokens lie at block g -/
def Toks (w : World) (g : Nat) (l : List Tok) : Prop := ∀ (i : Nat) (t : Tok), l[i]? = some t →
  w.cell? ⟨g, i * 3, none⟩ = some (.int .u8 t.k) ∧ w.cell? ⟨g, i * 3 + 1, none⟩ = some (.string ⟨t.t.toArray⟩) ∧ w.cell? ⟨g, i * 3 + 2, none⟩ = some (.int .i64 (t.p : Int))
theorem flat_at : ∀ (l : List Tok) (i : Nat) (t : Tok), l[i]? = some t → (l.flatMap cellsT)[i * 3]? = some (.int .u8 t.k) ∧ (l.flatMap cellsT)[i * 3 + 1]? = some (.string ⟨t.t.toArray⟩) ∧ (l.flatMap cellsT)[i * 3 + 2]? = some (.int .i64 (t.p : Int)) := by
  intro l
  induction l with
  | nil => intro i t h; simp at h
  | cons x l ih =>
    intro i t h
    rw [List.flatMap_cons]
    have hx : (cellsT x).length = 3 := rfl
    cases i with
    | zero =>
      simp only [List.getElem?_cons_zero, Option.some.injEq] at h
      subst h
      exact ⟨rfl, rfl, rfl⟩
    | succ i =>
      have h2 := ih i t (by simpa using h)
      rw [List.getElem?_append_right (by omega), List.getElem?_append_right (by omega), List.getElem?_append_right (by omega), hx]
      have e0 : (i + 1) * 3 - 3 = i * 3 := by omega
      have e1 : (i + 1) * 3 + 1 - 3 = i * 3 + 1 := by omega
      have e2 : (i + 1) * 3 + 2 - 3 = i * 3 + 2 := by omega
      rw [e0, e1, e2]
      exact h2
theorem toks_of {w : World} {base : Nat} {v : Value} {l : List Tok} (h : w.ownsRow base 33 3 v l.length (l.flatMap cellsT)) (hl : l ≠ []) :
    ∃ g cap, v = .slice (some ⟨g, 0, none⟩) l.length cap ∧ base ≤ g ∧ g < w.heap.size ∧ Toks w g l := by
  obtain ⟨g, cap, rfl, hg, hlt⟩ := World.ownsRow.form h (List.length_pos_iff.2 hl)
  refine ⟨g, cap, rfl, hg, hlt, fun i t hi => ?_⟩
  have hadd : ∀ j, (⟨g, 0, none⟩ : Addr).add j = ⟨g, j, none⟩ := fun j => by unfold Addr.add; split <;> simp_all
  obtain ⟨h0, h1, h2⟩ := flat_at l i t hi
  have c := World.ownsRow.cells h (g := g) rfl
  have c0 := c _ _ h0
  have c1 := c _ _ h1
  have c2 := c _ _ h2
  rw [hadd] at c0 c1 c2
  exact ⟨c0, c1, c2⟩
theorem Toks.below {w w' : World} {g : Nat} {l : List Tok} (h : Toks w g l) (hg : g < w.heap.size) (hb : Below w.heap.size w w') : Toks w' g l := fun i t hi =>
  ⟨(hb.cell (p := ⟨g, i * 3, none⟩) hg).trans (h i t hi).1, (hb.cell (p := ⟨g, i * 3 + 1, none⟩) hg).trans (h i t hi).2.1, (hb.cell (p := ⟨g, i * 3 + 2, none⟩) hg).trans (h i t hi).2.2⟩
theorem lex_ok (s : ByteArray) (l : List Tok) (w : World) (hs : s.size ≤ 65536) (h : lexR s.data.toList 0 = (l, none)) (hl : l ≠ []) :
    Calls Try.prog 13 #[.string s] w fun e w' => ∃ g cap, e = .returned (.tuple #[.slice (some ⟨g, 0, none⟩) l.length cap, .int .i64 0, .int .i64 0]) ∧ w.heap.size ≤ g ∧ g < w'.heap.size ∧ Toks w' g l ∧ Below w.heap.size w w' := by
  refine (lex_any s w hs).mono ?_
  rintro e w' (⟨v, _, rfl, hown, hb, _⟩ | ⟨a, h1, _, _⟩)
  · rw [h] at hown
    obtain ⟨g, cap, rfl, hg, hlt, ht⟩ := toks_of hown hl
    exact ⟨g, cap, rfl, hg, hlt, ht, hb⟩
  · rw [h] at h1; cases h1
theorem lex_empty (s : ByteArray) (w : World) (hs : s.size ≤ 65536) (h : lexR s.data.toList 0 = ([], none)) :
    Calls Try.prog 13 #[.string s] w fun e w' => e = .returned (.tuple #[.slice none 0 0, .int .i64 0, .int .i64 0]) ∧ Below w.heap.size w w' := by
  refine (lex_any s w hs).mono ?_
  rintro e w' (⟨v, _, rfl, hown, hb, hnil⟩ | ⟨a, h1, _, _⟩)
  · obtain rfl := hnil (by rw [h])
    exact ⟨rfl, hb⟩
  · rw [h] at h1; cases h1
theorem lex_bad (s : ByteArray) (a : Nat) (w : World) (hs : s.size ≤ 65536) (h : (lexR s.data.toList 0).2 = some a) :
    Calls Try.prog 13 #[.string s] w fun e w' => e = .returned (.tuple #[.slice none 0 0, .int .i64 (a : Int), .int .i64 3]) ∧ Below w.heap.size w w' := by
  refine (lex_any s w hs).mono ?_
  rintro e w' (⟨v, h1, _, _, _, _⟩ | ⟨a', h1, rfl, hb⟩)
  · rw [h] at h1; cases h1
  · rw [h] at h1; cases h1; exact ⟨rfl, hb⟩
theorem ex1 : lexR [120, 49, 32, 43, 61, 32, 51, 59, 35, 99] 0 = ([⟨1, [120, 49], 0⟩, ⟨4, [32], 2⟩, ⟨3, [43, 61], 3⟩, ⟨4, [32], 5⟩, ⟨2, [51], 6⟩, ⟨3, [59], 7⟩, ⟨5, [35, 99], 8⟩], none) := by rfl
theorem ex2 : lexR [97, 60, 61, 62, 98] 0 = ([⟨1, [97], 0⟩, ⟨3, [60, 61, 62], 1⟩, ⟨1, [98], 4⟩], none) := by rfl
theorem ex3 : (lexR [97, 66] 0).2 = some 1 := by rfl
set_option maxHeartbeats 4000000 in
theorem awake_any (w : World) : Calls Try.prog 12 #[] w fun e w' => e = .returned (.bool true) ∧ Below w.heap.size w w' := by
  go_enter Try.func12, Try.ntmps12
  go_wp2_with fail
  refine (lex_ok _ _ _ (by decide) ex1 (by simp)).mono ?_
  rintro e w1 ⟨g1, cap1, rfl, hg1, hlt1, ht1, hb1⟩
  have HT1 := Lib.hid ht1
  clear ht1
  go_wp2_with fail
  refine (lex_ok _ _ _ (by decide) ex2 (by simp)).mono ?_
  rintro e w2 ⟨g2, cap2, rfl, hg2, hlt2, ht2, hb2⟩
  have HT2 := Lib.hid (HT1.out.below hlt1 hb2)
  clear ht2 HT1
  have hs2 := hb2.size
  go_wp2_with fail
  refine (lex_bad _ _ _ (by decide) ex3).mono ?_
  rintro e w3 ⟨rfl, hb3⟩
  have HT3 := HT2.out.below (by omega) hb3
  have c2 := (HT3 2 _ rfl).2.1
  have c6 := (HT3 6 _ rfl).2.2
  have HB := (hb1.trans (hb2.mono hb1.size)).trans (hb3.mono (by have := hb1.size; omega))
  clear HT2 HT3 hb1 hb2 hb3
  go_wp2
  go_ret
  exact ⟨by simp, HB⟩
end Go.Proofs.Yteofoakkgkhjcaa
