/- The reference's Lex as a caller meets it; the comparison of two token lists. -/
import Derived.Test.YteofoakkgkhjcaaRows
import Derived.WalkKit
import Derived.ProofKit
import Derived.OpenShut
import Derived.Below
import Derived.Lib.Hide
import Derived.WalkSpells
import Derived.WalkLawsBesides
import Derived.Outline
import Derived.Test.YteofoakkgkhjcaaRefLex
import Derived.WalkSmall
import Derived.Deep.QuietTactic
import Derived.BigQuiet
namespace Go.Proofs.Yteofoakkgkhjcaa
open Go.ChangeShapes Go.WideShapes Go.ChangeAt Go.RowKit
set_option linter.unusedSimpArgs false
set_option linter.unusedVariables false
theorem toks_of' {w : World} {base e : Nat} {v : Value} {l : List Tok} (h : w.ownsRow base e 3 v l.length (l.flatMap cellsT)) (hl : l ≠ []) :
    ∃ g cap, v = .slice (some ⟨g, 0, none⟩) l.length cap ∧ base ≤ g ∧ g < w.heap.size ∧ Toks w g l := by
  obtain ⟨g, cap, rfl, hg, hlt⟩ := World.ownsRow.form h (List.length_pos_iff.2 hl)
  refine ⟨g, cap, rfl, hg, hlt, fun i t hi => ?_⟩
  have hadd : ∀ j, (⟨g, 0, none⟩ : Addr).add j = ⟨g, j, none⟩ := fun j => by unfold Addr.add; split <;> simp_all
  obtain ⟨h0, h1, h2⟩ := flat_at l i t hi
  have c := World.ownsRow.cells h (g := g) rfl
  have c0 := c _ _ h0
  have c1 := c _ _ h1
  have c2 := c _ _ h2
  rw [hadd] at c0 c1 c2
  exact ⟨c0, c1, c2⟩
theorem refLex_ok (s : ByteArray) (l : List Tok) (w : World) (hs : s.size ≤ 65536) (h : lexR s.data.toList 0 = (l, none)) (hl : l ≠ []) :
    Calls Try.prog 14 #[.string s] w fun e w' => ∃ g cap, e = .returned (.tuple #[.slice (some ⟨g, 0, none⟩) l.length cap, .int .i64 0, .int .i64 0]) ∧ w.heap.size ≤ g ∧ g < w'.heap.size ∧ Toks w' g l ∧ Below w.heap.size w w' := by
  refine (refLex_any s w hs).mono ?_
  rintro e w' (⟨v, _, rfl, hown, hb, _⟩ | ⟨a, h1, _, _⟩)
  · rw [h] at hown
    obtain ⟨g, cap, rfl, hg, hlt, ht⟩ := toks_of' hown hl
    exact ⟨g, cap, rfl, hg, hlt, ht, hb⟩
  · rw [h] at h1; cases h1
theorem refLex_empty (s : ByteArray) (w : World) (hs : s.size ≤ 65536) (h : lexR s.data.toList 0 = ([], none)) :
    Calls Try.prog 14 #[.string s] w fun e w' => e = .returned (.tuple #[.slice none 0 0, .int .i64 0, .int .i64 0]) ∧ Below w.heap.size w w' := by
  refine (refLex_any s w hs).mono ?_
  rintro e w' (⟨v, _, rfl, hown, hb, hnil⟩ | ⟨a, h1, _, _⟩)
  · obtain rfl := hnil (by rw [h])
    exact ⟨rfl, hb⟩
  · rw [h] at h1; cases h1
theorem refLex_bad (s : ByteArray) (a : Nat) (w : World) (hs : s.size ≤ 65536) (h : (lexR s.data.toList 0).2 = some a) :
    Calls Try.prog 14 #[.string s] w fun e w' => e = .returned (.tuple #[.slice none 0 0, .int .i64 (a : Int), .int .i64 3]) ∧ Below w.heap.size w w' := by
  refine (refLex_any s w hs).mono ?_
  rintro e w' (⟨v, h1, _, _, _, _⟩ | ⟨a', h1, rfl, hb⟩)
  · rw [h] at h1; cases h1
  · rw [h] at h1; cases h1; exact ⟨rfl, hb⟩
theorem same_nil (w : World) : Calls Try.prog 15 #[.slice none 0 0, .slice none 0 0] w fun e w' => e = .returned (.int .i64 1) ∧ Below w.heap.size w w' := by
  go_enter Try.func15, Try.ntmps15
  go_wp2
  refine wp_loop_rounds 1 ?_
  rw [rounds_succ]
  go_wp2
  go_ret
  exact ⟨rfl, Below.refl _ _⟩
set_option maxRecDepth 100000 in
set_option maxHeartbeats 2000000 in
theorem same_any (g1 c1 g2 c2 : Nat) (l : List Tok) (w : World) (h1 : Toks w g1 l) (h2 : Toks w g2 l) (hn : l.length ≤ 65536) :
    Calls Try.prog 15 #[.slice (some ⟨g1, 0, none⟩) l.length c1, .slice (some ⟨g2, 0, none⟩) l.length c2] w fun e w' => e = .returned (.int .i64 1) ∧ Below w.heap.size w w' := by
  have H1 := Lib.hid h1
  have H2 := Lib.hid h2
  clear h1 h2
  go_enter Try.func15, Try.ntmps15
  go_wp2
  go_loopw [5] (fun i wr => ∃ k : Nat, k ≤ l.length ∧ i = .int .i64 k ∧ ∃ nd, wr = w.drewN nd) (fun i _ => l.length - (intOf i).toNat)
  case atStart => exact ⟨0, by omega, rfl, 0, rfl⟩
  case round =>
    obtain ⟨k, hk, rfl, nd, rfl⟩ := hrel
    by_cases hlt : k < l.length
    · obtain ⟨t, ht⟩ : ∃ t, l[k]? = some t := ⟨_, List.getElem?_eq_getElem hlt⟩
      obtain ⟨a0, a1, a2⟩ := H1.out k t ht
      obtain ⟨b0, b1, b2⟩ := H2.out k t ht
      clear ht
      generalize (⟨t.t.toArray⟩ : ByteArray) = T at *
      have s6 : (k : Int) < (l.length : Int) := by omega
      go_wp2
      go_quiet (fail)
      go_wp2
      go_roundw
      case rel => exact ⟨k + 1, by omega, by go_num, _, rfl⟩
      case measure => simp [intOf]; omega
    · obtain rfl : k = l.length := by omega
      go_wp2
      go_ret
      exact ⟨rfl, below_drewN (Below.refl _ _) nd⟩
end Go.Proofs.Yteofoakkgkhjcaa
