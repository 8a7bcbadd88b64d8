/- The reference's tape: what each operation makes of it. -/
import Derived.Test.YthbeillgpnffmaaRows
import Derived.WalkKit
import Derived.ProofKit
import Derived.OpenShut
import Derived.Below
import Derived.Lib.Hide
import Derived.WalkSpells
import Derived.WalkLawsBesides
import Derived.Outline
import Derived.WalkSmall
import Derived.IntWalk
import Derived.Deep.OwnRows
import Derived.Deep.QuietTactic
import Derived.BigQuiet
import Derived.Test.YthbeillgpnffmaaApp
import Derived.Deep.Cut
namespace Go.Proofs.Ythbeillgpnffmaa
open Go.ChangeShapes Go.WideShapes Go.ChangeAt Go.RowKit
set_option linter.unusedSimpArgs false
set_option linter.unusedVariables false

theorem heap_new' (w : World) (o : Obj) {n : Nat} (h : n = w.heap.size) : (w.alloc o).heap[n]? = some o := by rw [h]; exact heap_alloc_new w o
theorem heap_old' (w : World) (o : Obj) {n : Nat} {x : Option Obj} (h : n < w.heap.size) (hx : w.heap[n]? = x) : (w.alloc o).heap[n]? = x := (Below.heap_alloc _ _ _ h).trans hx
theorem row_here {W : World} {B g : Nat} {cs : Array Value} (xs : List Int) (hB : B ≤ g) (h : W.heap[g]? = some (.cells cs 3 (0, 0))) (hc : cs.toList = xs.map (Value.int .i64)) (hx : xs.length ≤ 65536) : W.ownsRow B 3 1 (.slice (some ⟨g, 0, none⟩) xs.length xs.length) xs.length (xs.map (Value.int .i64)) :=
  ⟨by simp, .inr ⟨g, xs.length, cs, rfl, hB, h, Nat.le_refl _, by unfold maxLen; omega, by rw [← Array.length_toList, hc]; simp, by rw [hc]; simp [List.take_of_length_le]⟩⟩
theorem row_mono {w : World} {B B' e size n : Nat} {v : Value} {xs : List Value} (h : w.ownsRow B e size v n xs) (hB : B' ≤ B) : w.ownsRow B' e size v n xs := by
  refine ⟨h.1, ?_⟩
  rcases h.2 with hn | ⟨g, cap, cur, e, hb, rest⟩
  · exact .inl hn
  · exact .inr ⟨g, cap, cur, e, Nat.le_trans hB hb, rest⟩
theorem one_slice (W : World) (g : Nat) (n : Int) (h : W.heap[g]? = some (.cells #[.int .i64 n] 3 (0, 0))) : SliceI W (some ⟨g, 0, none⟩) [n] := fun _ => ⟨g, 0, rfl, (Array.getElem?_eq_some_iff.1 h).1, fun i z hi => by
  cases i with
  | zero => simp at hi; subst hi; rw [cell_of_row _ _ _ _ _ _ h]; rfl
  | succ i => simp at hi⟩
theorem SliceI.drew {w : World} {a : Option Addr} {zs : List Int} (h : SliceI w a zs) : SliceI w.drew a zs := h
def RPost (G : Nat → Prop) (w : World) (q : Nat) (ins outs : List Int) (w' : World) : Prop := RTape w' (grow G w w') q ins outs ∧ Chg (fun k => k = q) w w'
theorem ref_end {G : Nat → Prop} {w w1 : World} {q : Nat} {ai ao : Option Addr} {ci co : Nat} {ins outs l' : List Int} {v' : Value} (first : Bool) (hr : RefAt w q ai ao ci co ins outs) (hci : ins.length ≤ ci) (hco : outs.length ≤ co) (hGq : G q) (hGi : ∀ b o, ai = some ⟨b, o, none⟩ → ins ≠ [] → G b) (hGo : ∀ b o, ao = some ⟨b, o, none⟩ → outs ≠ [] → G b) (hGl : ∀ k, G k → k < w.heap.size)
    (hn : w1.ownsRow w.heap.size 3 1 v' l'.length (l'.map (Value.int .i64))) (hb : Below w.heap.size w w1) :
    RPost G w q (if first = true then l' else ins) (if first = true then outs else l') (w1.setCell ⟨q, if first = true then 0 else 1, none⟩ v') := by
  obtain ⟨h1, h2, h3⟩ := hr
  obtain ⟨hown, hnew⟩ := ownI_of_row hn
  obtain ⟨a', c', rfl, hs', hblk⟩ := hown.val
  have hlc : l'.length ≤ c' := by
    rcases hown with ⟨e, rfl⟩ | ⟨g, o, c, n, f, e, _, h4, _⟩
    · simp
    · cases e; exact h4
  have hq1 : w1.heap[q]? = some (.cells #[.slice ai ins.length ci, .slice ao outs.length co] 35 (0, 0)) := (hb.block q (hGl q hGq)).trans h1
  have hsz : (w1.setCell ⟨q, if first = true then 0 else 1, none⟩ (.slice a' l'.length c')).heap.size = w1.heap.size := by simp
  have key : ∀ k, k ≠ q → (w1.setCell ⟨q, if first = true then 0 else 1, none⟩ (.slice a' l'.length c')).heap[k]? = w1.heap[k]? := fun k hk => Below.heap_setCell _ _ _ _ hk
  have e1 := ref_ne h2 h1 (by intro k z e; cases e) (by intro k z e; cases e)
  have e2 := ref_ne h3 h1 (by intro k z e; cases e) (by intro k z e; cases e)
  have s1 := (h2.below hb).keep' (w' := w1.setCell ⟨q, if first = true then 0 else 1, none⟩ (.slice a' l'.length c')) (by rw [hsz]; exact Nat.le_refl _) (fun k hz ⟨o, e⟩ _ => key k (e1 k o e hz))
  have s2 := (h3.below hb).keep' (w' := w1.setCell ⟨q, if first = true then 0 else 1, none⟩ (.slice a' l'.length c')) (by rw [hsz]; exact Nat.le_refl _) (fun k hz ⟨o, e⟩ _ => key k (e2 k o e hz))
  have hql := hGl q hGq
  have s3 := hs'.keep' (w' := w1.setCell ⟨q, if first = true then 0 else 1, none⟩ (.slice a' l'.length c')) (by rw [hsz]; exact Nat.le_refl _) (fun k hz ⟨o, e⟩ _ => key k (fun e' => by have := hnew k (hblk k o e); omega))
  have hgl : ∀ k, grow G w (w1.setCell ⟨q, if first = true then 0 else 1, none⟩ (.slice a' l'.length c')) k → k < (w1.setCell ⟨q, if first = true then 0 else 1, none⟩ (.slice a' l'.length c')).heap.size := grow_lt hGl (by rw [hsz]; exact hb.size)
  have hgn : ∀ b o, a' = some ⟨b, o, none⟩ → l' ≠ [] → grow G w (w1.setCell ⟨q, if first = true then 0 else 1, none⟩ (.slice a' l'.length c')) b := fun b o e _ => .inr ⟨hnew b (hblk b o e), by rw [hsz]; exact hown.lt b (hblk b o e)⟩
  refine ⟨?_, Chg.setCell (F := fun k => k = q) (Chg.of_below _ hb) (a := ⟨q, _, none⟩) rfl _⟩
  cases first
  · exact ⟨ai, a', ci, c', ⟨by simp [World.setCell, hq1, Array.getElem?_modify], s1, s3⟩, hci, hlc, .inl hGq, fun b o e hz => .inl (hGi b o e hz), hgn, hgl⟩
  · exact ⟨a', ao, c', co, ⟨by simp [World.setCell, hq1, Array.getElem?_modify], s3, s2⟩, hlc, hco, .inl hGq, hgn, fun b o e hz => .inl (hGo b o e hz), hgl⟩
theorem RPost.same {G : Nat → Prop} {w w' : World} {q : Nat} {ins outs : List Int} (h : RTape w G q ins outs) (hb : Below w.heap.size w w') : RPost G w q ins outs w' :=
  ⟨by
    have h1 := h.keep hb.size (fun k hg => hb.block k (by obtain ⟨_, _, _, _, _, _, _, _, _, _, h8⟩ := h; exact h8 k hg))
    obtain ⟨ai, ao, ci, co, h2, hci, hco, h4, h5, h6, h7⟩ := h1
    obtain ⟨_, _, _, _, _, _, _, _, _, _, h8⟩ := h
    exact ⟨ai, ao, ci, co, h2, hci, hco, .inl h4, fun b o e hz => .inl (h5 b o e hz), fun b o e hz => .inl (h6 b o e hz), grow_lt h8 hb.size⟩, Chg.of_below _ hb⟩
end Go.Proofs.Ythbeillgpnffmaa
