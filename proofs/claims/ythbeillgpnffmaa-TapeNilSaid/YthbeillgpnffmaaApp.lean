/- append of integers that can be read to a row of our own; the reference's tape. -/
import Derived.Test.YthbeillgpnffmaaRows
import Derived.WalkKit
import Derived.ProofKit
import Derived.OpenShut
import Derived.Below
import Derived.Lib.Hide
import Derived.WalkSpells
import Derived.WalkLawsBesides
import Derived.Outline
import Derived.WalkSmall
import Derived.IntWalk
import Derived.Deep.OwnRows
import Derived.Deep.QuietTactic
import Derived.BigQuiet
import Derived.Test.YthbeillgpnffmaaTape
import Derived.Deep.RegionLaw
import Derived.Deep.AppendLies
namespace Go.Proofs.Ythbeillgpnffmaa
open Go.ChangeShapes Go.WideShapes Go.ChangeAt Go.RowKit
set_option linter.unusedSimpArgs false
set_option linter.unusedVariables false

theorem SliceI.at {w : World} {a : Option Addr} {zs : List Int} (h : SliceI w a zs) (hz : zs ≠ []) : ∃ b o, a = some ⟨b, o, none⟩ ∧ b < w.heap.size ∧ IntsAt w b o zs := h hz
theorem SliceI.alloc {w : World} {a : Option Addr} {zs : List Int} (h : SliceI w a zs) (o : Obj) : SliceI (w.alloc o) a zs := h.below ((Below.refl _ _).alloc (Nat.le_refl _) _)
theorem SliceI.drewN {w : World} {a : Option Addr} {zs : List Int} (h : SliceI w a zs) (n : Nat) : SliceI (w.drewN n) a zs := h.below (below_drewN (Below.refl _ _) n)
theorem app_run (w : World) (ty : TypeId) (B : Nat) (v : Value) (xs : List Int) (hown : w.ownsRow B 3 1 v xs.length (xs.map (Value.int .i64))) (a : Option Addr) (c : Nat) (ys : List Int) (hs : SliceI w a ys) (hx : xs.length ≤ 65536) (hy : ys.length ≤ 65536) (hB : B ≤ w.heap.size) :
    ∃ v' w', (Builtin.append_ #[22, 22] ty #[v, .slice a ys.length c]).run Try.prog w = .ok v' w' ∧ w'.ownsRow B 3 1 v' (xs.length + ys.length) ((xs ++ ys).map (Value.int .i64)) ∧ w.grownBy w' v.ownBlock := by
  obtain ⟨i0, hi, hz0, hz1, hz2⟩ := info_parts Try.info3
  by_cases hz : ys = []
  · subst hz
    refine ⟨v, w, ?_, by simpa using hown, ⟨rfl, rfl, rfl, Nat.le_refl _, fun _ _ _ => rfl⟩⟩
    have hf : (Builtin.firstCells i0.size 0 (.slice a 0 c)).run Try.prog w = .ok #[] w := by
      cases a with
      | none => exact run_firstCells_none w _ 0 0 c
      | some a => exact run_firstCells_some w _ 0 a 0 c [] (by simp) (fun j u hj => by simp at hj)
    rcases hown.2 with ⟨rfl, _⟩ | ⟨g, cap, cur, rfl, hbg, hg, h4, _⟩
    · simp [Builtin.append_, run_underlying Try.underlying22, sizeOf, typeInfo, hi, Builtin.lenOf, hf]
    · simp [Builtin.append_, run_underlying Try.underlying22, sizeOf, typeInfo, hi, Builtin.lenOf, hf, h4, storeCells]
  · obtain ⟨b, o, rfl, _, hat⟩ := hs.at hz
    obtain ⟨v', w', h1, h2, h3, _⟩ := run_append_own (P := Try.prog) w B 22 ty 3 i0 (.int .i64 0) 1 8 Try.underlying22 hi hz0 hz1 hz2 rfl (by decide) v xs.length _ hown ⟨b, o, none⟩ ys.length c (ys.map (Value.int .i64)) (by simp) (fun j u hj => by
      rw [ints_at] at hj
      obtain ⟨z, hz, rfl⟩ := Option.map_eq_some_iff.1 hj
      rw [Addr.add_lit]; exact hat j z hz) (ints_one ys) (by unfold maxLen; omega) (by omega) hB
    exact ⟨v', w', h1, by rw [List.map_append]; exact h2, h3⟩
theorem wp_app {o : Oper} {ac : Act} {w : World} {K : Act → World → Prop} {Q : Exit → Act → World → Prop} (s x : Operand) (ho : o.op = .call { callee := .builtin .append, args := #[s, x], argTypes := #[22, 22] })
    (B : Nat) (v : Value) (xs : List Int) (hv : ac.eval s = v) (hown : w.ownsRow B 3 1 v xs.length (xs.map (Value.int .i64))) (a : Option Addr) (c : Nat) (ys : List Int) (hxx : ac.eval x = .slice a ys.length c) (hs : SliceI w a ys) (hx : xs.length ≤ 65536) (hy : ys.length ≤ 65536) (hB : B ≤ w.heap.size)
    (h : ∀ v' w', w'.ownsRow B 3 1 v' (xs.length + ys.length) ((xs ++ ys).map (Value.int .i64)) → w.grownBy w' v.ownBlock → K (ac.put o.dst v') w') : o.wp Try.prog ac w K Q := by
  obtain ⟨v', w', hr, h2, h3⟩ := app_run w o.type B v xs hown a c ys hs hx hy hB
  unfold Oper.wp execOp
  simp only [ho, resolve, invoke, builtin, Sem.run_bind, Sem.run_pure, Result.andThen_ok, List.map_toArray, List.map_cons, List.map_nil, hv, hxx, hr]
  exact h v' w' h2 h3
theorem wpList_app {ops : Array Oper} {rest : List Oper} {o : Oper} {ac : Act} {w : World} {Q : Exit → Act → World → Prop} (hgd : o.guard = none) (s x : Operand) (ho : o.op = .call { callee := .builtin .append, args := #[s, x], argTypes := #[22, 22] })
    (B : Nat) (v : Value) (xs : List Int) (hv : ac.eval s = v) (hown : w.ownsRow B 3 1 v xs.length (xs.map (Value.int .i64))) (a : Option Addr) (c : Nat) (ys : List Int) (hxx : ac.eval x = .slice a ys.length c) (hs : SliceI w a ys) (hx : xs.length ≤ 65536) (hy : ys.length ≤ 65536) (hB : B ≤ w.heap.size)
    (h : ∀ v' w', w'.ownsRow B 3 1 v' (xs.length + ys.length) ((xs ++ ys).map (Value.int .i64)) → w.grownBy w' v.ownBlock → wpList Try.prog ops Q rest (ac.put o.dst v') w') : wpList Try.prog ops Q (o :: rest) ac w :=
  wpList_plain hgd fun _ hK => wp_app s x ho B v xs hv hown a c ys hxx hs hx hy hB fun v' w' h2 h3 => hK _ _ (h v' w' h2 h3)
theorem step_app {ops : Array Oper} {o : Oper} {ac : Act} {w : World} {K : Act → World → Prop} {Q : Exit → Act → World → Prop} {E : Prop} (hgd : o.guard = none) (s x : Operand) (ho : o.op = .call { callee := .builtin .append, args := #[s, x], argTypes := #[22, 22] })
    (B : Nat) (v : Value) (xs : List Int) (hv : ac.eval s = v) (hown : w.ownsRow B 3 1 v xs.length (xs.map (Value.int .i64))) (a : Option Addr) (c : Nat) (ys : List Int) (hxx : ac.eval x = .slice a ys.length c) (hs : SliceI w a ys) (hx : xs.length ≤ 65536) (hy : ys.length ≤ 65536) (hB : B ≤ w.heap.size)
    (h : ∀ v' w', w'.ownsRow B 3 1 v' (xs.length + ys.length) ((xs ++ ys).map (Value.int .i64)) → w.grownBy w' v.ownBlock → K (ac.put o.dst v') w') : if Region.wanted o (yielded ops ac.tmps) = true then Oper.wp Try.prog o ac w K Q else E := by
  have hw : Region.wanted o (yielded ops ac.tmps) = true := by simp [Region.wanted, hgd]
  rw [if_pos hw]
  exact wp_app s x ho B v xs hv hown a c ys hxx hs hx hy hB h
/-- a new row of integers, as an own row -/
theorem row_lit (w : World) (zs : List Int) (hm : zs.length ≤ 65536) : (w.alloc (.cells (zs.map (Value.int .i64)).toArray 3)).ownsRow w.heap.size 3 1 (.slice (some ⟨w.heap.size, 0, none⟩) zs.length zs.length) zs.length (zs.map (Value.int .i64)) :=
  ⟨by simp, .inr ⟨w.heap.size, zs.length, _, rfl, Nat.le_refl _, heap_alloc_new w _, Nat.le_refl _, by unfold maxLen; omega, by simp, by simp [List.take_of_length_le]⟩⟩
theorem grown_below {B : Nat} {w0 w w' : World} {v : Value} (h : Below B w0 w) (hg : w.grownBy w' v.ownBlock) (hB : B ≤ w.heap.size) (hr : ∀ k, blk v k → B ≤ k) : Below B w0 w' := h.grown hg hB (fun j hj => hr j hj)
/-- what the reference's tape is in memory -/
def RefAt (w : World) (q : Nat) (ai ao : Option Addr) (ci co : Nat) (ins outs : List Int) : Prop :=
  w.heap[q]? = some (.cells #[.slice ai ins.length ci, .slice ao outs.length co] 35 (0, 0)) ∧ SliceI w ai ins ∧ SliceI w ao outs
def RTape (w : World) (G : Nat → Prop) (q : Nat) (ins outs : List Int) : Prop :=
  ∃ ai ao ci co, RefAt w q ai ao ci co ins outs ∧ ins.length ≤ ci ∧ outs.length ≤ co ∧ G q ∧ (∀ b o, ai = some ⟨b, o, none⟩ → ins ≠ [] → G b) ∧ (∀ b o, ao = some ⟨b, o, none⟩ → outs ≠ [] → G b) ∧ (∀ k, G k → k < w.heap.size)
theorem SliceI.keep' {w w' : World} {a : Option Addr} {zs : List Int} (h : SliceI w a zs) (hs : w.heap.size ≤ w'.heap.size) (hb : ∀ k, zs ≠ [] → (∃ o, a = some ⟨k, o, none⟩) → k < w.heap.size → w'.heap[k]? = w.heap[k]?) : SliceI w' a zs := fun hz => h.keep hs (fun k => hb k hz) hz
theorem ref_ne {w : World} {q : Nat} {a : Option Addr} {zs : List Int} {s1 s2 : Value} {T : TypeId} (h : SliceI w a zs) (hq : w.heap[q]? = some (.cells #[s1, s2] T (0, 0))) (h1 : ∀ k z, s1 ≠ .int k z) (h2 : ∀ k z, s2 ≠ .int k z) : ∀ b o, a = some ⟨b, o, none⟩ → zs ≠ [] → b ≠ q := fun b o e hz hbq => by
  obtain ⟨b', o', e', _, hat⟩ := h hz
  rw [e] at e'; cases e'
  subst hbq
  obtain ⟨z, hz0⟩ : ∃ z, zs[0]? = some z := by
    cases zs with
    | nil => exact absurd rfl hz
    | cons z zs => exact ⟨z, rfl⟩
  have hc := hat 0 z hz0
  rw [Nat.add_zero, cell_of_row w b o _ _ _ hq] at hc
  match o, hc with
  | 0, hc => simp at hc; exact h1 _ _ hc
  | 1, hc => simp at hc; exact h2 _ _ hc
  | o + 2, hc => simp at hc
theorem RTape.keep {w w' : World} {G : Nat → Prop} {q : Nat} {ins outs : List Int} (h : RTape w G q ins outs) (hs : w.heap.size ≤ w'.heap.size) (hk : ∀ k, G k → w'.heap[k]? = w.heap[k]?) : RTape w' G q ins outs := by
  obtain ⟨ai, ao, ci, co, ⟨h1, h2, h3⟩, hci, hco, h4, h5, h6, h7⟩ := h
  exact ⟨ai, ao, ci, co, ⟨(hk q h4).trans h1, h2.keep' hs (fun k hz ⟨o, e⟩ _ => hk k (h5 k o e hz)), h3.keep' hs (fun k hz ⟨o, e⟩ _ => hk k (h6 k o e hz))⟩, hci, hco, h4, h5, h6, fun k hg => Nat.lt_of_lt_of_le (h7 k hg) hs⟩
theorem RTape.chg {w w' : World} {F G : Nat → Prop} {q : Nat} {ins outs : List Int} (h : RTape w G q ins outs) (hc : Chg F w w') (hd : ∀ k, G k → ¬ F k) : RTape w' G q ins outs :=
  h.keep hc.size (fun k hg => hc.block k (by obtain ⟨_, _, _, _, _, _, _, _, _, _, h8⟩ := h; exact h8 k hg) (hd k hg))
end Go.Proofs.Ythbeillgpnffmaa
