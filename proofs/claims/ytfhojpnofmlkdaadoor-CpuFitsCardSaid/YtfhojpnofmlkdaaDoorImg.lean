/- Images as lists of instructions; roles, links, targets. -/
import Derived.Test.YtfhojpnofmlkdaaDoorRows
import Derived.WalkKit
import Derived.ProofKit
import Derived.OpenShut
import Derived.Below
import Derived.Lib.Hide
import Derived.Outline
import Derived.WalkLawsBesides
import Derived.WalkSpells
import Derived.WalkSmall
import Derived.IntWalk
import Derived.Deep.QuietTactic
import Derived.BigQuiet
import Derived.Deep.RegionHeld3
import Derived.StillTailTactics
import Derived.Handy
import Derived.Deep.Cut
import Derived.Deep.OwnRows
import Derived.Deep.RegionWith
import Derived.Test.YtfhojpnofmlkdaaDoorValid
import Derived.Test.YtfhojpnofmlkdaaDoorRefV
namespace Go.Proofs.YtfhojpnofmlkdaaDoor
open Go.ChangeShapes Go.WideShapes Go.ChangeAt Go.RowKit
set_option linter.unusedSimpArgs false
set_option linter.unusedVariables false
set_option maxRecDepth 100000
set_option maxRecDepth 100000
structure Ins where
  k : Int
  a : Int
  b : Int
  c : Int
  d : Int
deriving DecidableEq
abbrev Ins.v (x : Ins) : Value := .agg #[.int .u8 x.k, .int .i64 x.a, .int .i64 x.b, .int .i64 x.c, .int .i64 x.d]
def Ins.cells (x : Ins) : List Value := [.int .u8 x.k, .int .i64 x.a, .int .i64 x.b, .int .i64 x.c, .int .i64 x.d]
def vld (x : Ins) : Bool := validB x.k x.a x.b x.c x.d
def rol (k : Int) : Int := if k = 22 ∨ k = 23 ∨ k = 24 then 1 else if k = 25 ∨ k = 26 ∨ k = 27 then 2 else if k = 32 then 3 else if k = 33 then 4 else 0
def opp (r : Int) : Int := if r = 1 then 2 else if r = 2 then 1 else if r = 3 then 4 else if r = 4 then 3 else 0
def tgt (x : Ins) : Int := tv x.k x.a x.b
/-- the reference's target -/
def rtg (k a b : Int) : Int := if tg k = 0 then a else if tg k = 1 then b else -1
/-- the link of the instruction x at index i -/
def lkF (x : Ins) (i : Int) : Int := if rol x.k = 0 ∨ vld x = false ∨ (rol x.k = 3 ∧ tgt x < i) ∨ (rol x.k = 4 ∧ i < tgt x) then 0 else i
def lkT (x : Ins) (i : Int) : Int := if rol x.k = 0 ∨ vld x = false ∨ (rol x.k = 3 ∧ tgt x < i) ∨ (rol x.k = 4 ∧ i < tgt x) then 0 else tgt x
def lkR (x : Ins) (i : Int) : Int := if rol x.k = 0 ∨ vld x = false ∨ (rol x.k = 3 ∧ tgt x < i) ∨ (rol x.k = 4 ∧ i < tgt x) then 0 else rol x.k
/-- a slice whose elements are the instructions l -/
def SliceC (w : World) (a : Option Addr) (l : List Ins) : Prop := l ≠ [] → ∃ b o, a = some ⟨b, o, none⟩ ∧ b < w.heap.size ∧ ∀ (i : Nat) (x : Ins), l[i]? = some x →
  w.cell? ⟨b, o + i * 5, none⟩ = some (.int .u8 x.k) ∧ w.cell? ⟨b, o + i * 5 + 1, none⟩ = some (.int .i64 x.a) ∧ w.cell? ⟨b, o + i * 5 + 2, none⟩ = some (.int .i64 x.b) ∧ w.cell? ⟨b, o + i * 5 + 3, none⟩ = some (.int .i64 x.c) ∧ w.cell? ⟨b, o + i * 5 + 4, none⟩ = some (.int .i64 x.d)
theorem SliceC.below {w w' : World} {a : Option Addr} {l : List Ins} (h : SliceC w a l) (hb : Below w.heap.size w w') : SliceC w' a l := fun hz => by
  obtain ⟨b, o, rfl, h1, h2⟩ := h hz
  refine ⟨b, o, rfl, Nat.lt_of_lt_of_le h1 hb.size, fun i x hi => ?_⟩
  obtain ⟨c0, c1, c2, c3, c4⟩ := h2 i x hi
  exact ⟨(hb.cell (p := ⟨b, _, none⟩) h1).trans c0, (hb.cell (p := ⟨b, _, none⟩) h1).trans c1, (hb.cell (p := ⟨b, _, none⟩) h1).trans c2, (hb.cell (p := ⟨b, _, none⟩) h1).trans c3, (hb.cell (p := ⟨b, _, none⟩) h1).trans c4⟩
theorem SliceC.at {w : World} {a : Option Addr} {l : List Ins} (h : SliceC w a l) {i : Nat} {x : Ins} (hi : l[i]? = some x) : ∃ b o, a = some ⟨b, o, none⟩ ∧ b < w.heap.size ∧
  w.cell? ⟨b, o + i * 5, none⟩ = some (.int .u8 x.k) ∧ w.cell? ⟨b, o + i * 5 + 1, none⟩ = some (.int .i64 x.a) ∧ w.cell? ⟨b, o + i * 5 + 2, none⟩ = some (.int .i64 x.b) ∧ w.cell? ⟨b, o + i * 5 + 3, none⟩ = some (.int .i64 x.c) ∧ w.cell? ⟨b, o + i * 5 + 4, none⟩ = some (.int .i64 x.d) := by
  obtain ⟨b, o, e, h1, h2⟩ := h (fun e => by subst e; simp at hi)
  exact ⟨b, o, e, h1, h2 i x hi⟩
/-- the opcodes are bytes -/
def WF (l : List Ins) : Prop := ∀ x ∈ l, 0 ≤ x.k ∧ x.k ≤ 255
theorem WF.at {l : List Ins} (h : WF l) {i : Nat} {x : Ins} (hi : l[i]? = some x) : 0 ≤ x.k ∧ x.k ≤ 255 := h x (List.mem_of_getElem? hi)
theorem lt_len {l : List Ins} {i : Nat} {x : Ins} (hi : l[i]? = some x) : i < l.length := (List.getElem?_eq_some_iff.1 hi).1
theorem rol_other (k : Int) (h : k ≠ 22 ∧ k ≠ 23 ∧ k ≠ 24 ∧ k ≠ 25 ∧ k ≠ 26 ∧ k ≠ 27 ∧ k ≠ 32 ∧ k ≠ 33) : rol k = 0 := by unfold rol; repeat (rw [if_neg (by omega)])
set_option maxHeartbeats 1000000 in
theorem role_any (k : Int) (w : World) : Calls Tryd.prog 73 #[.int .u8 k] w fun e w' => e = .returned (.int .u8 (rol k)) ∧ w = w' := by
  by_cases h22 : k = 22
  · subst h22
    have e : rol 22 = 1 := rfl
    rw [e]; clear e
    have e1 : jmp 22 = true := rfl; have e2 : lnd 22 = false := rfl
    go_enter Tryd.func73, Tryd.ntmps73
    go_wp2_with (first | (go_at_call 65; refine (isJump_any _ _).mono ?_; rintro e w1 ⟨rfl, rfl⟩) | (go_at_call 83; refine (isLanding_any _ _).mono ?_; rintro e w1 ⟨rfl, rfl⟩))
    go_ret
    exact ⟨rfl, rfl⟩
  by_cases h23 : k = 23
  · subst h23
    have e : rol 23 = 1 := rfl
    rw [e]; clear e
    have e1 : jmp 23 = true := rfl; have e2 : lnd 23 = false := rfl
    go_enter Tryd.func73, Tryd.ntmps73
    go_wp2_with (first | (go_at_call 65; refine (isJump_any _ _).mono ?_; rintro e w1 ⟨rfl, rfl⟩) | (go_at_call 83; refine (isLanding_any _ _).mono ?_; rintro e w1 ⟨rfl, rfl⟩))
    go_ret
    exact ⟨rfl, rfl⟩
  by_cases h24 : k = 24
  · subst h24
    have e : rol 24 = 1 := rfl
    rw [e]; clear e
    have e1 : jmp 24 = true := rfl; have e2 : lnd 24 = false := rfl
    go_enter Tryd.func73, Tryd.ntmps73
    go_wp2_with (first | (go_at_call 65; refine (isJump_any _ _).mono ?_; rintro e w1 ⟨rfl, rfl⟩) | (go_at_call 83; refine (isLanding_any _ _).mono ?_; rintro e w1 ⟨rfl, rfl⟩))
    go_ret
    exact ⟨rfl, rfl⟩
  by_cases h25 : k = 25
  · subst h25
    have e : rol 25 = 2 := rfl
    rw [e]; clear e
    have e1 : jmp 25 = false := rfl; have e2 : lnd 25 = true := rfl
    go_enter Tryd.func73, Tryd.ntmps73
    go_wp2_with (first | (go_at_call 65; refine (isJump_any _ _).mono ?_; rintro e w1 ⟨rfl, rfl⟩) | (go_at_call 83; refine (isLanding_any _ _).mono ?_; rintro e w1 ⟨rfl, rfl⟩))
    go_ret
    exact ⟨rfl, rfl⟩
  by_cases h26 : k = 26
  · subst h26
    have e : rol 26 = 2 := rfl
    rw [e]; clear e
    have e1 : jmp 26 = false := rfl; have e2 : lnd 26 = true := rfl
    go_enter Tryd.func73, Tryd.ntmps73
    go_wp2_with (first | (go_at_call 65; refine (isJump_any _ _).mono ?_; rintro e w1 ⟨rfl, rfl⟩) | (go_at_call 83; refine (isLanding_any _ _).mono ?_; rintro e w1 ⟨rfl, rfl⟩))
    go_ret
    exact ⟨rfl, rfl⟩
  by_cases h27 : k = 27
  · subst h27
    have e : rol 27 = 2 := rfl
    rw [e]; clear e
    have e1 : jmp 27 = false := rfl; have e2 : lnd 27 = true := rfl
    go_enter Tryd.func73, Tryd.ntmps73
    go_wp2_with (first | (go_at_call 65; refine (isJump_any _ _).mono ?_; rintro e w1 ⟨rfl, rfl⟩) | (go_at_call 83; refine (isLanding_any _ _).mono ?_; rintro e w1 ⟨rfl, rfl⟩))
    go_ret
    exact ⟨rfl, rfl⟩
  by_cases h32 : k = 32
  · subst h32
    have e : rol 32 = 3 := rfl
    rw [e]; clear e
    have e1 : jmp 32 = false := rfl; have e2 : lnd 32 = false := rfl
    go_enter Tryd.func73, Tryd.ntmps73
    go_wp2_with (first | (go_at_call 65; refine (isJump_any _ _).mono ?_; rintro e w1 ⟨rfl, rfl⟩) | (go_at_call 83; refine (isLanding_any _ _).mono ?_; rintro e w1 ⟨rfl, rfl⟩))
    go_ret
    exact ⟨rfl, rfl⟩
  by_cases h33 : k = 33
  · subst h33
    have e : rol 33 = 4 := rfl
    rw [e]; clear e
    have e1 : jmp 33 = false := rfl; have e2 : lnd 33 = false := rfl
    go_enter Tryd.func73, Tryd.ntmps73
    go_wp2_with (first | (go_at_call 65; refine (isJump_any _ _).mono ?_; rintro e w1 ⟨rfl, rfl⟩) | (go_at_call 83; refine (isLanding_any _ _).mono ?_; rintro e w1 ⟨rfl, rfl⟩))
    go_ret
    exact ⟨rfl, rfl⟩
  have b22 : (k == 22) = false := by simpa using h22
  have b23 : (k == 23) = false := by simpa using h23
  have b24 : (k == 24) = false := by simpa using h24
  have b25 : (k == 25) = false := by simpa using h25
  have b26 : (k == 26) = false := by simpa using h26
  have b27 : (k == 27) = false := by simpa using h27
  have b32 : (k == 32) = false := by simpa using h32
  have b33 : (k == 33) = false := by simpa using h33
  have e : rol k = 0 := rol_other k (by omega)
  have e1 : jmp k = false := by simp [jmp, *]
  have e2 : lnd k = false := by simp [lnd, *]
  rw [e]; clear e h22 h23 h24 h25 h26 h27 h32 h33
  go_enter Tryd.func73, Tryd.ntmps73
  go_wp2_with (first | (go_at_call 65; refine (isJump_any _ _).mono ?_; rintro e w1 ⟨rfl, rfl⟩) | (go_at_call 83; refine (isLanding_any _ _).mono ?_; rintro e w1 ⟨rfl, rfl⟩))
  go_ret
  exact ⟨rfl, rfl⟩
theorem rtg_other (k a b : Int) (h : k ≠ 22 ∧ k ≠ 25 ∧ k ≠ 30 ∧ k ≠ 31 ∧ k ≠ 32 ∧ k ≠ 33 ∧ k ≠ 23 ∧ k ≠ 24 ∧ k ≠ 26 ∧ k ≠ 27) : rtg k a b = -1 := by unfold rtg tg; repeat (rw [if_neg (by omega)])
theorem opp_at (r : Int) (hr : 0 ≤ r ∧ r ≤ 4) : (#[Value.int .u8 0, .int .u8 2, .int .u8 1, .int .u8 4, .int .u8 3] : Array Value)[r.toNat]? = some (.int .u8 (opp r)) := by
  rcases (by omega : r = 0 ∨ r = 1 ∨ r = 2 ∨ r = 3 ∨ r = 4) with rfl | rfl | rfl | rfl | rfl <;> rfl
set_option maxRecDepth 100000 in
set_option maxRecDepth 100000 in
set_option maxHeartbeats 2000000 in
theorem mirror_any (f t r : Int) (w : World) (hr : 0 ≤ r ∧ r ≤ 4) : Calls Tryd.prog 82 #[.agg #[.int .i64 f, .int .i64 t, .int .u8 r]] w fun e w' => e = .returned (.agg #[.int .i64 t, .int .i64 f, .int .u8 (opp r)]) ∧ Below w.heap.size w w' := by
  rcases (by omega : r = 0 ∨ r = 1 ∨ r = 2 ∨ r = 3 ∨ r = 4) with rfl | rfl | rfl | rfl | rfl
  · have e : opp 0 = 0 := rfl
    rw [e]; clear e
    go_enter Tryd.func82, Tryd.ntmps82
    go_upto_region 2 with fail
    refine wp_region_still_tail 9 (by kernel_rfl) (by kernel_rfl) ?_
    try change wpStill _ _ (World.drew _) _ _ _
    simp only [List.take_succ_cons, List.take_zero, List.drop_succ_cons, List.drop_zero]
    repeat still_step
    refine wpStill_nil ?_
    change wpList _ _ _ _ _ (World.drew _)
    go_wp2
    refine bodyPost_ret (v := .agg #[.int .i64 t, .int .i64 f, .int .u8 0]) (by simp [results, Tryd.results82, go_sem]) rfl ?_
    exact ⟨rfl, by go_grown⟩
  · have e : opp 1 = 2 := rfl
    rw [e]; clear e
    go_enter Tryd.func82, Tryd.ntmps82
    go_upto_region 2 with fail
    refine wp_region_still_tail 9 (by kernel_rfl) (by kernel_rfl) ?_
    try change wpStill _ _ (World.drew _) _ _ _
    simp only [List.take_succ_cons, List.take_zero, List.drop_succ_cons, List.drop_zero]
    repeat still_step
    refine wpStill_nil ?_
    change wpList _ _ _ _ _ (World.drew _)
    go_wp2
    refine bodyPost_ret (v := .agg #[.int .i64 t, .int .i64 f, .int .u8 2]) (by simp [results, Tryd.results82, go_sem]) rfl ?_
    exact ⟨rfl, by go_grown⟩
  · have e : opp 2 = 1 := rfl
    rw [e]; clear e
    go_enter Tryd.func82, Tryd.ntmps82
    go_upto_region 2 with fail
    refine wp_region_still_tail 9 (by kernel_rfl) (by kernel_rfl) ?_
    try change wpStill _ _ (World.drew _) _ _ _
    simp only [List.take_succ_cons, List.take_zero, List.drop_succ_cons, List.drop_zero]
    repeat still_step
    refine wpStill_nil ?_
    change wpList _ _ _ _ _ (World.drew _)
    go_wp2
    refine bodyPost_ret (v := .agg #[.int .i64 t, .int .i64 f, .int .u8 1]) (by simp [results, Tryd.results82, go_sem]) rfl ?_
    exact ⟨rfl, by go_grown⟩
  · have e : opp 3 = 4 := rfl
    rw [e]; clear e
    go_enter Tryd.func82, Tryd.ntmps82
    go_upto_region 2 with fail
    refine wp_region_still_tail 9 (by kernel_rfl) (by kernel_rfl) ?_
    try change wpStill _ _ (World.drew _) _ _ _
    simp only [List.take_succ_cons, List.take_zero, List.drop_succ_cons, List.drop_zero]
    repeat still_step
    refine wpStill_nil ?_
    change wpList _ _ _ _ _ (World.drew _)
    go_wp2
    refine bodyPost_ret (v := .agg #[.int .i64 t, .int .i64 f, .int .u8 4]) (by simp [results, Tryd.results82, go_sem]) rfl ?_
    exact ⟨rfl, by go_grown⟩
  · have e : opp 4 = 3 := rfl
    rw [e]; clear e
    go_enter Tryd.func82, Tryd.ntmps82
    go_upto_region 2 with fail
    refine wp_region_still_tail 9 (by kernel_rfl) (by kernel_rfl) ?_
    try change wpStill _ _ (World.drew _) _ _ _
    simp only [List.take_succ_cons, List.take_zero, List.drop_succ_cons, List.drop_zero]
    repeat still_step
    refine wpStill_nil ?_
    change wpList _ _ _ _ _ (World.drew _)
    go_wp2
    refine bodyPost_ret (v := .agg #[.int .i64 t, .int .i64 f, .int .u8 3]) (by simp [results, Tryd.results82, go_sem]) rfl ?_
    exact ⟨rfl, by go_grown⟩
end Go.Proofs.YtfhojpnofmlkdaaDoor
