/- Rows of integers that a tape owns, slices of integers that can be read, and what an operation may change. -/
import Derived.Test.YthbeillgpnffmaaRows
import Derived.WalkKit
import Derived.ProofKit
import Derived.OpenShut
import Derived.Below
import Derived.Lib.Hide
import Derived.WalkSpells
import Derived.WalkLawsBesides
import Derived.Outline
import Derived.WalkSmall
import Derived.IntWalk
import Derived.Deep.OwnRows
import Derived.Deep.QuietTactic
import Derived.BigQuiet
import Derived.Test.YthbeillgpnffmaaShelf
import Derived.Laws.IdiomCopy
import Derived.Laws.NewBlocks
namespace Go.Proofs.Ythbeillgpnffmaa
open Go.ChangeShapes Go.WideShapes Go.ChangeAt Go.RowKit
set_option linter.unusedSimpArgs false
set_option linter.unusedVariables false

/-- what a call may change: blocks of F, and new ones -/
structure Chg (F : Nat → Prop) (w w' : World) : Prop where
  os : w'.os = w.os
  tape : w'.tape = w.tape
  output : w'.output = w.output
  size : w.heap.size ≤ w'.heap.size
  block : ∀ k, k < w.heap.size → ¬ F k → w'.heap[k]? = w.heap[k]?
theorem Chg.refl (F : Nat → Prop) (w : World) : Chg F w w := ⟨rfl, rfl, rfl, Nat.le_refl _, fun _ _ _ => rfl⟩
theorem Chg.mono {F G : Nat → Prop} {w w' : World} (h : Chg F w w') (hs : ∀ k, k < w.heap.size → F k → G k) : Chg G w w' := ⟨h.os, h.tape, h.output, h.size, fun k hk hn => h.block k hk (fun hf => hn (hs k hk hf))⟩
theorem Chg.trans {F : Nat → Prop} {w w1 w2 : World} (h : Chg F w w1) (h2 : Chg F w1 w2) : Chg F w w2 :=
  ⟨h2.os.trans h.os, h2.tape.trans h.tape, h2.output.trans h.output, Nat.le_trans h.size h2.size, fun k hk hn => (h2.block k (Nat.lt_of_lt_of_le hk h.size) hn).trans (h.block k hk hn)⟩
theorem Chg.of_below {w w' : World} (F : Nat → Prop) (h : Below w.heap.size w w') : Chg F w w' := ⟨h.os, h.tape, h.output, h.size, fun k hk _ => h.block k hk⟩
theorem Chg.below {F : Nat → Prop} {B : Nat} {w w' : World} (h : Chg F w w') (hF : ∀ k, F k → B ≤ k) (hB : B ≤ w.heap.size) : Below B w w' := ⟨h.os, h.tape, h.output, h.size, fun k hk => h.block k (Nat.lt_of_lt_of_le hk hB) (fun hf => by have := hF k hf; omega)⟩
theorem Chg.setCell {F : Nat → Prop} {w w' : World} (h : Chg F w w') {a : Addr} (ha : F a.block) (v : Value) : Chg F w (w'.setCell a v) :=
  h.trans ⟨rfl, rfl, rfl, by simp, fun k _ hn => Below.heap_setCell _ _ _ _ (fun e => hn (by rw [e]; exact ha))⟩
theorem Chg.alloc {F : Nat → Prop} {w w' : World} (h : Chg F w w') (o : Obj) : Chg F w (w'.alloc o) :=
  h.trans (Chg.of_below F ((Below.refl _ _).alloc (Nat.le_refl _) o))
/-- the blocks of F, and those that are new in w' -/
def grow (F : Nat → Prop) (w w' : World) : Nat → Prop := fun k => F k ∨ (w.heap.size ≤ k ∧ k < w'.heap.size)
/-- integers that can be read from offset o of block b on -/
def IntsAt (w : World) (b o : Nat) (zs : List Int) : Prop := ∀ (i : Nat) (z : Int), zs[i]? = some z → w.cell? ⟨b, o + i, none⟩ = some (.int .i64 z)
/-- a slice whose elements are zs; where it is empty its address may be any -/
def SliceI (w : World) (a : Option Addr) (zs : List Int) : Prop := zs ≠ [] → ∃ b o, a = some ⟨b, o, none⟩ ∧ b < w.heap.size ∧ IntsAt w b o zs
theorem SliceI.keep {w w' : World} {a : Option Addr} {zs : List Int} (h : SliceI w a zs) (hs : w.heap.size ≤ w'.heap.size) (hb : ∀ k, (∃ o, a = some ⟨k, o, none⟩) → k < w.heap.size → w'.heap[k]? = w.heap[k]?) : SliceI w' a zs := fun hz => by
  obtain ⟨b, o, rfl, h1, h2⟩ := h hz
  refine ⟨b, o, rfl, Nat.lt_of_lt_of_le h1 hs, fun i z hi => ?_⟩
  rw [World.cell?_of_block (w := w) (hb b ⟨o, rfl⟩ h1)]
  exact h2 i z hi
theorem SliceI.below {w w' : World} {a : Option Addr} {zs : List Int} (h : SliceI w a zs) (hb : Below w.heap.size w w') : SliceI w' a zs := h.keep hb.size (fun k _ hk => hb.block k hk)
/-- the block that a slice's elements lie in -/
def blk (v : Value) (k : Nat) : Prop := v.ownBlock = some k
/-- a slice of integers in a block of our own: nil, or a part of a row -/
def OwnI (w : World) (v : Value) (zs : List Int) : Prop :=
  (v = .slice none 0 0 ∧ zs = []) ∨
  ∃ g o c n f, v = .slice (some ⟨g, o, none⟩) zs.length c ∧ w.rowIs g 3 n f ∧ zs.length ≤ c ∧ o + c ≤ n ∧ c ≤ maxLen ∧ ∀ (i : Nat) (z : Int), zs[i]? = some z → f (o + i) = .int .i64 z
theorem OwnI.keep {w w' : World} {v : Value} {zs : List Int} (h : OwnI w v zs) (hb : ∀ k, blk v k → w'.heap[k]? = w.heap[k]?) : OwnI w' v zs := by
  rcases h with h | ⟨g, o, c, n, f, rfl, h1, h2⟩
  · exact .inl h
  · exact .inr ⟨g, o, c, n, f, rfl, h1.of_block (hb g rfl), h2⟩
theorem OwnI.lt {w : World} {v : Value} {zs : List Int} (h : OwnI w v zs) : ∀ k, blk v k → k < w.heap.size := fun k hk => by
  rcases h with ⟨rfl, _⟩ | ⟨g, o, c, n, f, rfl, h1, h2⟩
  · cases hk
  · cases hk; exact h1.lt
theorem OwnI.val {w : World} {v : Value} {zs : List Int} (h : OwnI w v zs) : ∃ a c, v = .slice a zs.length c ∧ SliceI w a zs ∧ (∀ b o, a = some ⟨b, o, none⟩ → blk v b) := by
  rcases h with ⟨rfl, rfl⟩ | ⟨g, o, c, n, f, rfl, h1, h2, h3, _, h4⟩
  · exact ⟨none, 0, rfl, fun e => absurd rfl e, fun b o e => by cases e⟩
  · refine ⟨_, c, rfl, fun _ => ⟨g, o, rfl, h1.lt, fun i z hi => ?_⟩, fun b o e => by cases e; rfl⟩
    have hlt : i < zs.length := by
      rcases Nat.lt_or_ge i zs.length with h5 | h5
      · exact h5
      · rw [List.getElem?_eq_none h5] at hi; cases hi
    rw [h1.cell (by omega), h4 i z hi]
theorem ownI_of_row {w : World} {B : Nat} {v : Value} {zs : List Int} (h : w.ownsRow B 3 1 v zs.length (zs.map (Value.int .i64))) : OwnI w v zs ∧ ∀ k, blk v k → B ≤ k := by
  rcases h.2 with ⟨rfl, hn⟩ | ⟨g, cap, cur, rfl, hb, hg, h1, h2, h3, h4⟩
  · exact ⟨.inl ⟨rfl, List.length_eq_zero_iff.1 hn⟩, fun k hk => by cases hk⟩
  · refine ⟨.inr ⟨g, 0, cap, cap, fun i => cur[i]?.getD undef, rfl, ⟨cur, hg, by simpa using h3, fun i hi => ?_⟩, h1, by omega, h2, fun i z hi => ?_⟩, fun k hk => by cases hk; exact hb⟩
    · have : i < cur.size := by omega
      simp [this]
    · have h5 : (zs.map (Value.int .i64))[i]? = some (.int .i64 z) := by rw [List.getElem?_map, hi]; rfl
      rw [← h4, List.getElem?_take] at h5
      split at h5
      · rw [Nat.zero_add]
        have h6 : cur[i]? = some (.int .i64 z) := by simpa using h5
        simp [h6]
      · cases h5
/-- slices.Clone of a slice that can be read -/
theorem clone_any (a : Option Addr) (c : Nat) (zs : List Int) (w : World) (h : SliceI w a zs) (hn : zs.length ≤ 65536) :
    Calls Try.prog 25 #[.slice a zs.length c] w fun e w' => ∃ v, e = .returned v ∧ OwnI w' v zs ∧ (∀ k, blk v k → w.heap.size ≤ k) ∧ Below w.heap.size w w' := by
  cases a with
  | none =>
    have hz : zs = [] := by
      by_cases hz : zs = []
      · exact hz
      · obtain ⟨b, o, e, _⟩ := h hz; cases e
    subst hz
    refine (Try.slices_Clone_int_nil 0 c w).mono ?_
    rintro e w' ⟨rfl, rfl⟩
    exact ⟨_, rfl, .inl ⟨rfl, rfl⟩, (fun k hk => by cases hk), Below.refl _ _⟩
  | some a =>
    by_cases hz : zs = []
    · subst hz
      refine (Try.slices_Clone_int_zero a c w).mono ?_
      rintro e w' ⟨v, rfl, ho, _, hb⟩
      obtain ⟨h1, h2⟩ := ownI_of_row (zs := []) ho
      exact ⟨v, rfl, h1, h2, hb⟩
    · obtain ⟨b, o, e, _, hi⟩ := h hz
      cases e
      refine (Try.slices_Clone_int b o zs.length c zs w (Nat.le_refl _) (by omega) (fun j hj => ?_)).mono ?_
      · rw [hi j _ (List.getElem?_eq_getElem hj)]
        rw [List.getD_eq_getElem?_getD, List.getElem?_eq_getElem hj]; rfl
      · rintro e w' ⟨v, rfl, ho, _, hb⟩
        rw [List.take_length] at ho
        obtain ⟨h1, h2⟩ := ownI_of_row ho
        exact ⟨v, rfl, h1, h2, hb⟩
end Go.Proofs.Ythbeillgpnffmaa
