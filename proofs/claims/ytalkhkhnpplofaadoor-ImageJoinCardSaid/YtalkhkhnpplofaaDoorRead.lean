/- A row of numbers of the program's own, read; the first halt. -/
import Derived.Test.YtalkhkhnpplofaaDoorRows
import Derived.WalkKit
import Derived.ProofKit
import Derived.OpenShut
import Derived.Below
import Derived.Lib.Hide
import Derived.Outline
import Derived.WalkLawsBesides
import Derived.WalkSpells
import Derived.WalkSmall
import Derived.IntWalk
import Derived.Deep.QuietTactic
import Derived.BigQuiet
import Derived.Deep.RegionHeld3
import Derived.StillTailTactics
import Derived.Handy
import Derived.Deep.Cut
import Derived.Deep.OwnRows
import Derived.Deep.RegionWith
import Derived.Test.YtalkhkhnpplofaaDoorProcs
import Derived.Test.YtalkhkhnpplofaaDoorSame
import Derived.Test.YtalkhkhnpplofaaDoorRFault
namespace Go.Proofs.YtalkhkhnpplofaaDoor
open Go.ChangeShapes Go.WideShapes Go.ChangeAt Go.RowKit
set_option linter.unusedSimpArgs false
set_option linter.unusedVariables false

/-- a slice of numbers -/
def SliceN (w : World) (a : Option Addr) (ss : List Nat) : Prop := ss ≠ [] → ∃ g, a = some ⟨g, 0, none⟩ ∧ g < w.heap.size ∧ ∀ (q : Nat) (s : Nat), ss[q]? = some s → w.cell? ⟨g, q, none⟩ = some (.int .i64 (s : Int))
theorem SliceN.below {w w' : World} {a : Option Addr} {ss : List Nat} (h : SliceN w a ss) (hb : Below w.heap.size w w') : SliceN w' a ss := fun hz => by
  obtain ⟨g, rfl, h1, h2⟩ := h hz
  exact ⟨g, rfl, Nat.lt_of_lt_of_le h1 hb.size, fun q s hs => cell_on hb (h2 q s hs)⟩
theorem SliceN.at {w : World} {a : Option Addr} {ss : List Nat} (h : SliceN w a ss) {q s : Nat} (hs : ss[q]? = some s) : ∃ g, a = some ⟨g, 0, none⟩ ∧ w.cell? ⟨g, q, none⟩ = some (.int .i64 (s : Int)) := by
  obtain ⟨g, e, _, h2⟩ := h (fun e => by subst e; simp at hs)
  exact ⟨g, e, h2 q s hs⟩
theorem own_slice {w : World} {B : Nat} {v : Value} {ss : List Nat} (h : w.ownsRow B 3 1 v ss.length (intsV ss)) : ∃ a cap, v = .slice a ss.length cap ∧ SliceN w a ss := by
  rcases h.2 with ⟨rfl, hn⟩ | ⟨g, cap, cur, rfl, hb, hg, rest⟩
  · have : ss = [] := List.eq_nil_of_length_eq_zero hn
    subst this
    exact ⟨none, 0, rfl, fun e => absurd rfl e⟩
  · refine ⟨_, cap, rfl, fun _ => ⟨g, rfl, ?_, fun q s hs => ?_⟩⟩
    · exact (h.lt g rfl).2
    · have hq : q < ss.length := (List.getElem?_eq_some_iff.1 hs).1
      have hc := h.cellAt q (by omega)
      rw [hc]
      unfold intsV
      rw [List.getElem?_map, hs]; rfl
theorem part_nonneg {l : List Ins} {i t : Int} (h : part l i = some t) : 0 ≤ t ∧ t < l.length := by
  have h1 := part_in (l := l) (t := i) (by rw [h]; rfl)
  obtain ⟨j, rfl⟩ : ∃ j : Nat, i = j := ⟨i.toNat, by omega⟩
  obtain ⟨q, rfl, hq⟩ := (part_iff l j t).1 h
  have := hq.lt.2
  omega
/-- the first halt below j, or -1 -/
def fu (l : List Ins) : Nat → Int
  | 0 => -1
  | j + 1 => if fu l j < 0 ∧ (l[j]?).map (·.k) = some 34 then (j : Int) else fu l j
theorem fu_range (l : List Ins) (j : Nat) : -1 ≤ fu l j ∧ fu l j < j := by
  induction j with
  | zero => exact ⟨Int.le_refl _, by show (-1 : Int) < ((0 : Nat) : Int); omega⟩
  | succ j ih =>
    show -1 ≤ (if fu l j < 0 ∧ (l[j]?).map (·.k) = some 34 then (j : Int) else fu l j) ∧ (if fu l j < 0 ∧ (l[j]?).map (·.k) = some 34 then (j : Int) else fu l j) < _
    split <;> omega
theorem fu_cases (l : List Ins) (j : Nat) : (fu l j = -1 ∧ ∀ i, i < j → (l[i]?).map (·.k) ≠ some 34) ∨ ∃ i : Nat, fu l j = i ∧ i < j ∧ (l[i]?).map (·.k) = some 34 ∧ ∀ q, q < i → (l[q]?).map (·.k) ≠ some 34 := by
  induction j with
  | zero => exact .inl ⟨rfl, fun i h => by omega⟩
  | succ j ih =>
    rcases ih with ⟨h1, h2⟩ | ⟨i, h1, h2, h3, h4⟩
    · by_cases hk : (l[j]?).map (·.k) = some 34
      · exact .inr ⟨j, by show (if fu l j < 0 ∧ _ then _ else _) = _; rw [if_pos ⟨by omega, hk⟩], by omega, hk, h2⟩
      · refine .inl ⟨by show (if fu l j < 0 ∧ _ then _ else _) = _; rw [if_neg (fun e => hk e.2), h1], fun i hi => ?_⟩
        by_cases e : i = j
        · subst e; exact hk
        · exact h2 i (by omega)
    · exact .inr ⟨i, by show (if fu l j < 0 ∧ _ then _ else _) = _; rw [if_neg (fun e => by have := e.1; omega), h1], by omega, h3, h4⟩
theorem fu_fst (l : List Ins) : fstI l = max (fu l l.length) 0 ∧ fstB l = decide (0 ≤ fu l l.length) := by
  unfold fstI fstB
  rcases fu_cases l l.length with ⟨h1, h2⟩ | ⟨i, h1, h2, h3, h4⟩
  · rw [h1, fst34_none h2]; exact ⟨rfl, rfl⟩
  · rw [h1, fst34_some h2 h4 h3]
    refine ⟨?_, ?_⟩
    · show (i : Int) = max (i : Int) 0
      omega
    · simp
theorem fu_yes {l : List Ins} {j : Nat} {x : Ins} (hx : l[j]? = some x) (hk : x.k = 34) (h : fu l j < 0) : fu l (j + 1) = j := by
  show (if fu l j < 0 ∧ (l[j]?).map (·.k) = some 34 then (j : Int) else fu l j) = j
  rw [if_pos ⟨h, by rw [hx]; simp [hk]⟩]
theorem fu_no {l : List Ins} {j : Nat} {x : Ins} (hx : l[j]? = some x) (hk : x.k ≠ 34 ∨ ¬ fu l j < 0) : fu l (j + 1) = fu l j := by
  show (if fu l j < 0 ∧ (l[j]?).map (·.k) = some 34 then (j : Int) else fu l j) = _
  rw [if_neg]
  rintro ⟨h1, h2⟩
  rw [hx] at h2
  rcases hk with hk | hk
  · exact hk (by simpa using h2)
  · exact hk h1
theorem pcs_pre (l : List Ins) (i j : Nat) (h : i ≤ j) : ∃ r, pcs l j = pcs l i ++ r := by
  induction j with
  | zero => obtain rfl : i = 0 := by omega
            exact ⟨[], by simp⟩
  | succ j ih =>
    by_cases e : i = j + 1
    · subst e; exact ⟨[], by simp⟩
    · obtain ⟨r, hr⟩ := ih (by omega)
      refine ⟨r ++ List.filter (fun i => (l[i]?).map (·.k) == some 32) [j], ?_⟩
      unfold pcs at *
      rw [List.range_succ, List.filter_append, hr, List.append_assoc]
theorem pcs_at {l : List Ins} {j n : Nat} {x : Ins} (hx : l[j]? = some x) (h : x.k = 32) (hj : j < n) : (pcs l n)[(pcs l j).length]? = some j := by
  obtain ⟨r, hr⟩ := pcs_pre l (j + 1) n hj
  rw [hr, pcs_yes hx h, List.append_assoc, List.getElem?_append_right (Nat.le_refl _)]
  simp
end Go.Proofs.YtalkhkhnpplofaaDoor
