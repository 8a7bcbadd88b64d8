/- A tape and a reference's tape side by side, with different numbers or the same ones. -/
import Derived.Test.YthbeillgpnffmaaRows
import Derived.WalkKit
import Derived.ProofKit
import Derived.OpenShut
import Derived.Below
import Derived.Lib.Hide
import Derived.WalkSpells
import Derived.WalkLawsBesides
import Derived.Outline
import Derived.WalkSmall
import Derived.IntWalk
import Derived.Deep.OwnRows
import Derived.Deep.QuietTactic
import Derived.BigQuiet
import Derived.Test.YthbeillgpnffmaaRows2
namespace Go.Proofs.Ythbeillgpnffmaa
open Go.ChangeShapes Go.WideShapes Go.ChangeAt Go.RowKit
set_option linter.unusedSimpArgs false
set_option linter.unusedVariables false

/-- a tape at p with (i1, o1) and a reference's tape at q with (i2, o2), in different blocks; nothing older than w0 has changed -/
def TT (w0 w : World) (p q : Nat) (i1 o1 i2 o2 : List Int) : Prop :=
  ∃ F G : Nat → Prop, Tape w F p i1 o1 ∧ RTape w G q i2 o2 ∧ (∀ k, F k → ¬ G k) ∧ (∀ k, F k → w0.heap.size ≤ k) ∧ w0.heap.size ≤ q ∧ Below w0.heap.size w0 w
theorem TT.bel {w0 w : World} {p q : Nat} {i1 o1 i2 o2 : List Int} (h : TT w0 w p q i1 o1 i2 o2) : Below w0.heap.size w0 w := by obtain ⟨_, _, _, _, _, _, _, h⟩ := h; exact h
theorem RTape.lt {w : World} {G : Nat → Prop} {q : Nat} {ins outs : List Int} (h : RTape w G q ins outs) : ∀ k, G k → k < w.heap.size := by obtain ⟨_, _, _, _, _, _, _, _, _, _, h8⟩ := h; exact h8
theorem TT.below {w0 w w' : World} {p q : Nat} {i1 o1 i2 o2 : List Int} (h : TT w0 w p q i1 o1 i2 o2) (hb : Below w.heap.size w w') : TT w0 w' p q i1 o1 i2 o2 := by
  obtain ⟨F, G, h1, h2, h3, h4, h5, h6⟩ := h
  exact ⟨F, G, h1.below hb, h2.keep hb.size (fun k hk => hb.block k (h2.lt k hk)), h3, h4, h5, below_on h6 hb⟩
theorem TT.read {w0 w : World} {p q : Nat} {i1 o1 i2 o2 : List Int} (h : TT w0 w p q i1 o1 i2 o2) :
    ∃ ai ao ci co, w.cell? ⟨q, 0, none⟩ = some (.slice ai i2.length ci) ∧ w.cell? ⟨q, 1, none⟩ = some (.slice ao o2.length co) ∧ SliceI w ai i2 ∧ SliceI w ao o2 := by
  obtain ⟨F, G, h1, h2, h3, h4, h5, h6⟩ := h
  obtain ⟨ai, ao, ci, co, hr, _⟩ := h2
  exact ⟨ai, ao, ci, co, by rw [cell_of_row w q 0 _ _ _ hr.1]; rfl, by rw [cell_of_row w q 1 _ _ _ hr.1]; rfl, hr.2.1, hr.2.2⟩
theorem doTT (w0 w : World) (p q : Nat) (k n : Int) (i1 o1 i2 o2 : List Int) (h : TT w0 w p q i1 o1 i2 o2) (hl : o1.length ≤ 4096) :
    Calls Try.prog 16 #[.pointer (some ⟨p, 0, none⟩), .agg #[.int .i64 k, .int .i64 n]] w fun e w' => e = .returned (.tuple #[.int .i64 (stepT k n i1 o1).2.2.1, .int .i64 (stepT k n i1 o1).2.2.2]) ∧ TT w0 w' p q (stepT k n i1 o1).1 (stepT k n i1 o1).2.1 i2 o2 := by
  obtain ⟨F, G, h1, h2, h3, h4, h5, h6⟩ := h
  refine (do_any F p k n i1 o1 w h1 (by omega)).mono ?_
  rintro x w' ⟨rfl, hp⟩
  refine ⟨rfl, grow F w w', G, hp.1, h2.chg hp.2 (fun j hg hf => h3 j hf hg), fun j hj hg => ?_, fun j hj => ?_, h5, h6.trans (hp.2.below h4 h6.size)⟩
  · rcases hj with hj | hj
    · exact h3 j hj hg
    · have := h2.lt j hg; omega
  · rcases hj with hj | hj
    · exact h4 j hj
    · exact Nat.le_trans h6.size hj.1
theorem doTTb (w0 w : World) (ob : Obj) (p q : Nat) (k n : Int) (i1 o1 i2 o2 : List Int) (h : TT w0 w p q i1 o1 i2 o2) (hl : o1.length ≤ 4096) :
    Calls Try.prog 16 #[.pointer (some ⟨p, 0, none⟩), .agg #[.int .i64 k, .int .i64 n]] (w.alloc ob) fun e w' => e = .returned (.tuple #[.int .i64 (stepT k n i1 o1).2.2.1, .int .i64 (stepT k n i1 o1).2.2.2]) ∧ TT w0 w' p q (stepT k n i1 o1).1 (stepT k n i1 o1).2.1 i2 o2 ∧ w'.heap[w.heap.size]? = some ob := by
  have hA : Below w.heap.size w (w.alloc ob) := (Below.refl _ _).alloc (Nat.le_refl _) _
  obtain ⟨F, G, h1, h2, h3, h4, h5, h6⟩ := id h
  have hsz : (w.alloc ob).heap.size = w.heap.size + 1 := by simp
  refine (do_any F p k n i1 o1 _ (h1.below hA) (by omega)).mono ?_
  rintro x w' ⟨rfl, hp⟩
  refine ⟨rfl, ⟨grow F (w.alloc ob) w', G, hp.1, (h2.keep hA.size (fun k hk => hA.block k (h2.lt k hk))).chg hp.2 (fun j hg hf => h3 j hf hg), fun j hj hg => ?_, fun j hj => ?_, h5, (below_on h6 hA).trans (hp.2.below h4 (Nat.le_trans h6.size hA.size))⟩, ?_⟩
  · rcases hj with hj | hj
    · exact h3 j hj hg
    · have := h2.lt j hg; omega
  · rcases hj with hj | hj
    · exact h4 j hj
    · exact Nat.le_trans (Nat.le_trans h6.size hA.size) hj.1
  · rw [hp.2.block _ (by omega) (fun hf => by have := h1.lt _ hf; omega)]
    exact heap_alloc_new w ob
theorem refTT (w0 w : World) (p q : Nat) (k n : Int) (i1 o1 i2 o2 : List Int) (h : TT w0 w p q i1 o1 i2 o2) (hl : i2.length ≤ 4096) (hl2 : o2.length ≤ 4096) :
    Calls Try.prog 17 #[.pointer (some ⟨q, 0, none⟩), .agg #[.int .i64 k, .int .i64 n]] w fun e w' => e = .returned (.tuple #[.int .i64 (stepT k n i2 o2).2.2.1, .int .i64 (stepT k n i2 o2).2.2.2]) ∧ TT w0 w' p q i1 o1 (stepT k n i2 o2).1 (stepT k n i2 o2).2.1 := by
  obtain ⟨F, G, h1, h2, h3, h4, h5, h6⟩ := h
  have hgq : G q := by obtain ⟨_, _, _, _, _, _, _, hgq, _⟩ := h2; exact hgq
  refine (refDo_any G q k n i2 o2 w h2 (by omega) (by omega)).mono ?_
  rintro x w' ⟨rfl, hp⟩
  refine ⟨rfl, F, grow G w w', h1.chg hp.2 (fun j hf e => h3 j hf (by rw [e]; exact hgq)), hp.1, fun j hj hg => ?_, h4, h5, h6.trans (hp.2.below (fun k e => by rw [e]; exact h5) h6.size)⟩
  rcases hg with hg | hg
  · exact h3 j hj hg
  · have := h1.lt j hj; omega
theorem sameTT (w0 w : World) (p q : Nat) (i1 o1 i2 o2 : List Int) (a1 a2 : Option Addr) (c1 c2 : Nat) (h : TT w0 w p q i1 o1 i2 o2) (h1 : SliceI w a1 i1) (h2 : SliceI w a2 o1) (hl : i1.length ≤ 4096) (hl2 : o1.length ≤ 4096) :
    Calls Try.prog 15 #[.pointer (some ⟨p, 0, none⟩), .slice a1 i1.length c1, .slice a2 o1.length c2] w fun e w' => e = .returned (.bool true) ∧ Below w0.heap.size w0 w' := by
  obtain ⟨F, G, k1, k2, k3, k4, k5, k6⟩ := h
  refine (same_any F p i1 o1 _ _ _ _ _ k1 h1 h2 (by omega) (by omega)).mono ?_
  rintro e w' ⟨rfl, hb⟩
  exact ⟨rfl, below_on k6 hb⟩
theorem rtape_new (w : World) (B : Nat) (a1 a2 : Option Addr) (c1 c2 : Nat) (i o : List Int) (h1 : SliceI w a1 i) (h2 : SliceI w a2 o) (hb1 : ∀ b o, a1 = some ⟨b, o, none⟩ → i ≠ [] → b < B) (hb2 : ∀ b p, a2 = some ⟨b, p, none⟩ → o ≠ [] → b < B) (hB : B ≤ w.heap.size) (y1 : i.length ≤ c1) (y2 : o.length ≤ c2) :
    RTape (w.alloc (.cells #[.slice a1 i.length c1, .slice a2 o.length c2] 35)) (fun k => k = w.heap.size ∨ k < B) w.heap.size i o :=
  ⟨a1, a2, c1, c2, ⟨heap_alloc_new w _, h1.alloc _, h2.alloc _⟩, y1, y2, .inl rfl, fun b o e hz => .inr (hb1 b o e hz), fun b o e hz => .inr (hb2 b o e hz), fun k hk => by
    have : (w.alloc (.cells #[.slice a1 i.length c1, .slice a2 o.length c2] 35)).heap.size = w.heap.size + 1 := by simp
    rw [this]
    rcases hk with rfl | hk <;> omega⟩
theorem SliceI.old {w : World} {a : Option Addr} {zs : List Int} (h : SliceI w a zs) : ∀ b o, a = some ⟨b, o, none⟩ → zs ≠ [] → b < w.heap.size := fun b o e hz => by
  obtain ⟨b', o', e', h1, _⟩ := h hz
  rw [e] at e'; cases e'; exact h1
/-- one operation read out of the list -/
theorem SliceO.at {w : World} {a : Option Addr} {l : List (Int × Int)} (h : SliceO w a l) {k : Nat} (hk : k < l.length) : ∃ b o x, a = some ⟨b, o, none⟩ ∧ l[k]? = some x ∧ b < w.heap.size ∧ w.cell? ⟨b, o + k * 2, none⟩ = some (.int .i64 x.1) ∧ w.cell? ⟨b, o + k * 2 + 1, none⟩ = some (.int .i64 x.2) := by
  obtain ⟨b, o, rfl, hb, hx⟩ := h (fun e => by subst e; simp at hk)
  obtain ⟨h1, h2⟩ := hx k l[k] (List.getElem?_eq_getElem hk)
  exact ⟨b, o, l[k], rfl, List.getElem?_eq_getElem hk, hb, h1, h2⟩
end Go.Proofs.Ythbeillgpnffmaa
