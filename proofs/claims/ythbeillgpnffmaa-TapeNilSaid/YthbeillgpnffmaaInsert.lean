/- The operations of a tape. -/
import Derived.Test.YthbeillgpnffmaaRows
import Derived.WalkKit
import Derived.ProofKit
import Derived.OpenShut
import Derived.Below
import Derived.Lib.Hide
import Derived.WalkSpells
import Derived.WalkLawsBesides
import Derived.Outline
import Derived.WalkSmall
import Derived.IntWalk
import Derived.Deep.OwnRows
import Derived.Deep.QuietTactic
import Derived.BigQuiet
import Derived.Test.YthbeillgpnffmaaIns
import Derived.Deep.RegionWith
import Derived.Deep.RegionLaw
namespace Go.Proofs.Ythbeillgpnffmaa
open Go.ChangeShapes Go.WideShapes Go.ChangeAt Go.RowKit
set_option linter.unusedSimpArgs false
set_option linter.unusedVariables false

theorem OwnI.drewN {w : World} {v : Value} {zs : List Int} (h : OwnI w v zs) (n : Nat) : OwnI (w.drewN n) v zs := h.keep fun k hk => (below_drewN (Below.refl w.heap.size w) n).block k (h.lt k hk)
theorem OwnI.alloc {w : World} {v : Value} {zs : List Int} (h : OwnI w v zs) (o : Obj) : OwnI (w.alloc o) v zs := h.keep fun k hk => Below.heap_alloc _ _ _ (h.lt k hk)
theorem OwnI.chg {F : Nat → Prop} {w w' : World} {v : Value} {zs : List Int} (h : OwnI w v zs) (hc : Chg F w w') (hn : ∀ k, blk v k → ¬ F k) : OwnI w' v zs := h.keep fun k hk => hc.block k (h.lt k hk) (hn k hk)
/-- the list behind an insertion -/
def insL (front : Bool) (n : Int) (zs : List Int) : List Int := if front = true then n :: zs else zs ++ [n]
theorem ins_any (front : Bool) (v : Value) (zs : List Int) (n i : Int) (vb : Nat) (w : World) (h : OwnI w v zs) (ho : One w n vb) (hvb : ¬ blk v vb) (hn : zs.length ≤ 65536) (hi : i = if front = true then 0 else (zs.length : Int)) :
    Calls Try.prog 27 #[v, .int .i64 i, .slice (some ⟨vb, 0, none⟩) 1 1] w fun e w' => ∃ v', e = .returned v' ∧ OwnI w' v' (insL front n zs) ∧ (∀ k, blk v' k → blk v k ∨ w.heap.size ≤ k) ∧ Chg (blk v) w w' := by
  subst hi
  cases front
  · exact ins_end v zs n vb w h ho hvb hn
  · exact ins_front v zs n vb w h ho hvb hn
theorem insert_full (p fo : Nat) (v : Value) (zs : List Int) (n i : Int) (w : World) (hc : w.cell? ⟨p, fo, none⟩ = some v) (h : OwnI w v zs) (hf : 4096 ≤ zs.length) :
    Calls Try.prog 26 #[.pointer (some ⟨p, fo, none⟩), .int .i64 i, .int .i64 n] w fun e w' => e = .returned (.int .i64 5) ∧ w' = w := by
  obtain ⟨a, c, rfl, _⟩ := h.val
  have hd : decide ((4096 : Int) ≤ (zs.length : Int)) = true := by simp; omega
  have hd2 : (4096 : Int) ≤ (zs.length : Int) := by omega
  go_enter Try.func26, Try.ntmps26
  go_wp2
  go_ret
  exact ⟨rfl, rfl⟩
theorem insert_room (front : Bool) (p fo : Nat) (v : Value) (zs : List Int) (n i : Int) (w : World) (hc : w.cell? ⟨p, fo, none⟩ = some v) (hz : w.frozen? ⟨p, fo, none⟩ = false) (h : OwnI w v zs) (hp : ¬ blk v p) (hf : ¬ 4096 ≤ zs.length) (hi : i = if front = true then 0 else (zs.length : Int)) :
    Calls Try.prog 26 #[.pointer (some ⟨p, fo, none⟩), .int .i64 i, .int .i64 n] w fun e w' => e = .returned (.int .i64 0) ∧ ∃ v' w1, OwnI w1 v' (insL front n zs) ∧ (∀ k, blk v' k → blk v k ∨ w.heap.size ≤ k) ∧ Chg (blk v) w w1 ∧ w' = w1.setCell ⟨p, fo, none⟩ v' := by
  have hlt := World.block_lt_of_cell? w _ hc
  have H := Lib.hid h
  obtain ⟨a, c, hv, _⟩ := h.val
  have HP := Lib.hid hp
  have HI := Lib.hid hi
  have hd : decide ((4096 : Int) ≤ (zs.length : Int)) = false := by simp; omega
  have hd2 : ¬ (4096 : Int) ≤ (zs.length : Int) := by omega
  have hOne : One (w.alloc (.cells #[.int .i64 n] 3)) n w.heap.size := heap_alloc_new w _
  have HO := Lib.hid hOne
  have HB : Hid (¬ blk v w.heap.size) := Lib.hid (fun e => by have := h.lt _ e; omega)
  have HL : Hid (zs.length ≤ 65536) := Lib.hid (by omega)
  clear h hp hi hOne
  have hc0 := hc
  rw [hv] at hc0
  go_enter Try.func26, Try.ntmps26
  go_wp2_with (go_at_call 27; rw [← hv]; refine (ins_any front v zs n i _ _ (H.out.alloc _) HO.out HB.out HL.out HI.out).mono ?_; rintro e w2 ⟨v', rfl, q1, q2, q3⟩; have HQ := Lib.hid (And.intro q1 (And.intro q2 q3)); have qc : w2.cell? ⟨p, fo, none⟩ = some v := (World.cell?_of_block (a := ⟨p, fo, none⟩) (q3.block p (by simp; omega) HP.out)).trans ((World.cell?_alloc_past _ _ _ hlt).trans hc); have qf : w2.frozen? ⟨p, fo, none⟩ = false := (World.frozen?_of_block (a := ⟨p, fo, none⟩) (q3.block p (by simp; omega) HP.out)).trans ((World.frozen?_alloc_past _ _ _ hlt).trans hz); clear q1 q2 q3; obtain ⟨a', c', hv', _⟩ := HQ.out.1.val; subst hv')
  go_ret
  refine ⟨rfl, _, w2, HQ.out.1, fun k hk => ?_, ((Chg.refl _ w).alloc _).trans HQ.out.2.2, rfl⟩
  rcases HQ.out.2.1 k hk with h1 | h1
  · exact .inl h1
  · exact .inr (by simp at h1; omega)
end Go.Proofs.Ythbeillgpnffmaa
