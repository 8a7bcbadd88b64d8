/- The program's own copy of an image. -/
import Derived.Test.YtalkhkhnpplofaaDoorRows
import Derived.WalkKit
import Derived.ProofKit
import Derived.OpenShut
import Derived.Below
import Derived.Lib.Hide
import Derived.Outline
import Derived.WalkLawsBesides
import Derived.WalkSpells
import Derived.WalkSmall
import Derived.IntWalk
import Derived.Deep.QuietTactic
import Derived.BigQuiet
import Derived.Deep.RegionHeld3
import Derived.StillTailTactics
import Derived.Handy
import Derived.Deep.Cut
import Derived.Deep.OwnRows
import Derived.Deep.RegionWith
import Derived.Test.YtalkhkhnpplofaaDoorAppI
import Derived.Test.YtalkhkhnpplofaaDoorAwake
namespace Go.Proofs.YtalkhkhnpplofaaDoor
open Go.ChangeShapes Go.WideShapes Go.ChangeAt Go.RowKit
set_option linter.unusedSimpArgs false
set_option linter.unusedVariables false

theorem onC {w w1 w2 : World} {n : Nat} {a : Option Addr} {cap : Nat} {m s : Int} {l : List Ins} (hg : Below w1.heap.size w1 w2) (h : (fun w' => w'.cell? ⟨w.heap.size, 0, none⟩ = some (.slice a n cap) ∧ w'.cell? ⟨w.heap.size, 1, none⟩ = some (.int .i64 m) ∧ w'.cell? ⟨w.heap.size, 2, none⟩ = some (.int .i64 s) ∧ Below w.heap.size w w' ∧ SliceC w' a l) w1) : (fun w' => w'.cell? ⟨w.heap.size, 0, none⟩ = some (.slice a n cap) ∧ w'.cell? ⟨w.heap.size, 1, none⟩ = some (.int .i64 m) ∧ w'.cell? ⟨w.heap.size, 2, none⟩ = some (.int .i64 s) ∧ Below w.heap.size w w' ∧ SliceC w' a l) w2 := by
  obtain ⟨h0, h1, h2, hB, hS⟩ := h
  exact ⟨cell_on hg h0, cell_on hg h1, cell_on hg h2, below_on hB hg, hS.below hg⟩
structure CP (w : World) (n : Nat) (a : Option Addr) (cap : Nat) (m s : Int) (l : List Ins) (w1 : World) (q : Nat) (aa : Option Addr) (cc : Nat) (W : World) : Prop where
  held : (fun w' => w'.cell? ⟨w.heap.size, 0, none⟩ = some (.slice a n cap) ∧ w'.cell? ⟨w.heap.size, 1, none⟩ = some (.int .i64 m) ∧ w'.cell? ⟨w.heap.size, 2, none⟩ = some (.int .i64 s) ∧ Below w.heap.size w w' ∧ SliceC w' a l) W
  bx : W.cell? ⟨q, 0, none⟩ = some (.slice aa n cc) ∧ W.cell? ⟨q, 1, none⟩ = some (.int .i64 m) ∧ W.cell? ⟨q, 2, none⟩ = some (.int .i64 s)
  sl : SliceC W aa l
  frz : l ≠ [] → ∃ g, aa = some ⟨g, 0, none⟩ ∧ w1.heap.size ≤ g ∧ g ≠ q ∧ ∀ j, W.frozen? ⟨g, j, none⟩ = false
  bel : Below w1.heap.size w1 W
  lt : w1.heap.size ≤ q ∧ q < W.heap.size
theorem CP.way1 {w w1 w' : World} {n : Nat} {a aa : Option Addr} {cap cc : Nat} {m s : Int} {l : List Ins} (h : (fun w' => w'.cell? ⟨w.heap.size, 0, none⟩ = some (.slice a n cap) ∧ w'.cell? ⟨w.heap.size, 1, none⟩ = some (.int .i64 m) ∧ w'.cell? ⟨w.heap.size, 2, none⟩ = some (.int .i64 s) ∧ Below w.heap.size w w' ∧ SliceC w' a l) w1) (hb : Below w1.heap.size w1 w') (ho : OwnI w' w1.heap.size (.slice aa n cc) l) :
    CP w n a cap m s l w1 w'.heap.size aa cc (w'.alloc (.cells #[.slice aa n cc, .int .i64 m, .int .i64 s] 24)) := by
  have hn := below_new w' (.cells #[.slice aa n cc, .int .i64 m, .int .i64 s] 24)
  obtain ⟨⟨b0, b1, b2⟩, _⟩ := boxN w' w'.heap.size (.slice aa n cc) (.int .i64 m) (.int .i64 s) rfl
  obtain ⟨a', c', hv, hsl, hg⟩ := ho.read
  cases hv
  refine ⟨onC (below_on hb hn) h, ⟨b0, b1, b2⟩, hsl.below hn, fun hne => ?_, below_on hb hn, hb.size, by simp⟩
  obtain ⟨g, o, rfl, hlt, _⟩ := hsl hne
  obtain ⟨h1, h2, rfl, h4⟩ := hg g o rfl
  exact ⟨g, rfl, h1, by omega, fun j => by rw [hn.frozen (p := ⟨g, j, none⟩) h2]; exact h4 j⟩
theorem CP.way2 {w w1 w' : World} {n q : Nat} {a aa : Option Addr} {cap cc : Nat} {m s : Int} {l : List Ins} (h : (fun w' => w'.cell? ⟨w.heap.size, 0, none⟩ = some (.slice a n cap) ∧ w'.cell? ⟨w.heap.size, 1, none⟩ = some (.int .i64 m) ∧ w'.cell? ⟨w.heap.size, 2, none⟩ = some (.int .i64 s) ∧ Below w.heap.size w w' ∧ SliceC w' a l) w1) (hb : Below w1.heap.size w1 w') (ho : OwnI w' w1.heap.size (.slice aa n cc) l) (hq : w1.heap.size ≤ q)
    (b0 : w'.cell? ⟨q, 0, none⟩ = some (.slice none 0 0)) (b1 : w'.cell? ⟨q, 1, none⟩ = some (.int .i64 0)) (b2 : w'.cell? ⟨q, 2, none⟩ = some (.int .i64 0)) :
    CP w n a cap m s l w1 q aa cc (((w'.setCell ⟨q, 0, none⟩ (.slice aa n cc)).setCell ⟨q, 1, none⟩ (.int .i64 m)).setCell ⟨q, 2, none⟩ (.int .i64 s)) := by
  have hlt := World.block_lt_of_cell? _ _ b0
  have hb3 : Below w1.heap.size w1 (((w'.setCell ⟨q, 0, none⟩ (.slice aa n cc)).setCell ⟨q, 1, none⟩ (.int .i64 m)).setCell ⟨q, 2, none⟩ (.int .i64 s)) := ((hb.setCell (p := ⟨q, 0, none⟩) hq _).setCell (p := ⟨q, 1, none⟩) hq _).setCell (p := ⟨q, 2, none⟩) hq _
  obtain ⟨z0, z1, z2⟩ := set3 w' q (.slice aa n cc) (.int .i64 m) (.int .i64 s) _ _ _ b0 b1 b2
  obtain ⟨a', c', hv, hsl, hg⟩ := ho.read
  cases hv
  have hgq : ∀ g o : Nat, aa = some ⟨g, o, none⟩ → l ≠ [] → g ≠ q := fun g o e hne hgq => by
    obtain ⟨g', o', e', _, hc⟩ := hsl hne
    rw [e] at e'; cases e'
    obtain ⟨_, _, rfl, _⟩ := hg g o e
    obtain ⟨x, hx⟩ : ∃ x, l[0]? = some x := by
      cases l with
      | nil => exact absurd rfl hne
      | cons x l => exact ⟨x, rfl⟩
    have := (hc 0 x hx).1
    rw [hgq, Nat.zero_mul, b0] at this
    cases this
  refine ⟨onC hb3 h, ⟨z0, z1, z2⟩, fun hne => ?_, fun hne => ?_, hb3, hq, by simpa using hlt⟩
  · obtain ⟨g, o, rfl, hl, hc⟩ := hsl hne
    have hne2 := hgq g o rfl hne
    refine ⟨g, o, rfl, by simpa using hl, fun i x hi => ?_⟩
    obtain ⟨d0, d1, d2, d3, d4⟩ := hc i x hi
    exact ⟨set_past hne2 (set_past hne2 (set_past hne2 d0)), set_past hne2 (set_past hne2 (set_past hne2 d1)), set_past hne2 (set_past hne2 (set_past hne2 d2)), set_past hne2 (set_past hne2 (set_past hne2 d3)), set_past hne2 (set_past hne2 (set_past hne2 d4))⟩
  · obtain ⟨g, o, rfl, hl, hc⟩ := hsl hne
    obtain ⟨h1, h2, rfl, h4⟩ := hg g o rfl
    exact ⟨g, rfl, h1, hgq g 0 rfl hne, fun j => by rw [World.frozen?_setCell, World.frozen?_setCell, World.frozen?_setCell]; exact h4 j⟩
end Go.Proofs.YtalkhkhnpplofaaDoor
