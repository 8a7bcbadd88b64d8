/- Contracts: mnemonics, numbers of operands, jumps and landings, inverses. -/
import Derived.Test.YtfhojpnofmlkdaaDoorRows
import Derived.WalkKit
import Derived.ProofKit
import Derived.OpenShut
import Derived.Below
import Derived.Lib.Hide
import Derived.Test.YtfhojpnofmlkdaaDoorTab
import Derived.Outline
namespace Go.Proofs.YtfhojpnofmlkdaaDoor
open Go.ChangeShapes Go.WideShapes Go.ChangeAt Go.RowKit
set_option linter.unusedSimpArgs false
set_option linter.unusedVariables false
set_option maxRecDepth 100000
theorem field0 (x y : ByteArray) (w : World) : (Instr.field 74 (.agg #[.string x, .string y]) 0).run Tryd.prog w = .ok (.string x) w := by kernel_rfl
theorem field1 (x y : ByteArray) (w : World) : (Instr.field 74 (.agg #[.string x, .string y]) 1).run Tryd.prog w = .ok (.string y) w := by kernel_rfl
def jmp (k : Int) : Bool := decide (k = 22 ∨ k = 23 ∨ k = 24)
def lnd (k : Int) : Bool := decide (k = 25 ∨ k = 26 ∨ k = 27)
theorem isJump_any (k : Int) (w : World) : Calls Tryd.prog 65 #[.int .u8 k] w fun e w' => e = .returned (.bool (jmp k)) ∧ w = w' := by
  by_cases h22 : k = 22
  · subst h22; go_enter Tryd.func65, Tryd.ntmps65; go_wp2; go_ret; exact ⟨rfl, rfl⟩
  by_cases h23 : k = 23
  · subst h23; go_enter Tryd.func65, Tryd.ntmps65; go_wp2; go_ret; exact ⟨rfl, rfl⟩
  by_cases h24 : k = 24
  · subst h24; go_enter Tryd.func65, Tryd.ntmps65; go_wp2; go_ret; exact ⟨rfl, rfl⟩
  have b22 : (k == 22) = false := by simpa using h22
  have b23 : (k == 23) = false := by simpa using h23
  have b24 : (k == 24) = false := by simpa using h24
  have e : jmp k = false := by simp [jmp, *]
  rw [e]; clear e h22 h23 h24
  go_enter Tryd.func65, Tryd.ntmps65; go_wp2; go_ret; exact ⟨by simp [*], rfl⟩
theorem isLanding_any (k : Int) (w : World) : Calls Tryd.prog 83 #[.int .u8 k] w fun e w' => e = .returned (.bool (lnd k)) ∧ w = w' := by
  by_cases h25 : k = 25
  · subst h25; go_enter Tryd.func83, Tryd.ntmps83; go_wp2; go_ret; exact ⟨rfl, rfl⟩
  by_cases h26 : k = 26
  · subst h26; go_enter Tryd.func83, Tryd.ntmps83; go_wp2; go_ret; exact ⟨rfl, rfl⟩
  by_cases h27 : k = 27
  · subst h27; go_enter Tryd.func83, Tryd.ntmps83; go_wp2; go_ret; exact ⟨rfl, rfl⟩
  have b25 : (k == 25) = false := by simpa using h25
  have b26 : (k == 26) = false := by simpa using h26
  have b27 : (k == 27) = false := by simpa using h27
  have e : lnd k = false := by simp [lnd, *]
  rw [e]; clear e h25 h26 h27
  go_enter Tryd.func83, Tryd.ntmps83; go_wp2; go_ret; exact ⟨by simp [*], rfl⟩
def invO (k : Int) : Int := if k = 1 then 2 else if k = 2 then 1 else if k = 4 then 5 else if k = 5 then 4 else if k = 12 then 13 else if k = 13 then 12 else if k = 17 then 18 else if k = 18 then 17 else if k = 19 then 20 else if k = 20 then 19 else if k = 22 then 25 else if k = 23 then 26 else if k = 24 then 27 else if k = 25 then 22 else if k = 26 then 23 else if k = 27 then 24 else if k = 28 then 29 else if k = 29 then 28 else if k = 32 then 33 else if k = 33 then 32 else k
theorem invO_other (k : Int) (h : k ≠ 1 ∧ k ≠ 2 ∧ k ≠ 4 ∧ k ≠ 5 ∧ k ≠ 12 ∧ k ≠ 13 ∧ k ≠ 17 ∧ k ≠ 18 ∧ k ≠ 19 ∧ k ≠ 20 ∧ k ≠ 22 ∧ k ≠ 23 ∧ k ≠ 24 ∧ k ≠ 25 ∧ k ≠ 26 ∧ k ≠ 27 ∧ k ≠ 28 ∧ k ≠ 29 ∧ k ≠ 32 ∧ k ≠ 33) : invO k = k := by unfold invO; repeat (rw [if_neg (by omega)])
set_option maxHeartbeats 4000000 in
theorem inverse_any (k a b c d : Int) (w : World) :
    Calls Tryd.prog 24 #[.agg #[.int .u8 k, .int .i64 a, .int .i64 b, .int .i64 c, .int .i64 d]] w fun e w' => e = .returned (.agg #[.int .u8 (invO k), .int .i64 a, .int .i64 b, .int .i64 c, .int .i64 d]) ∧ Below w.heap.size w w' := by
  by_cases h1 : k = 1
  · subst h1
    have e : invO 1 = 2 := rfl
    rw [e]; clear e
    go_enter Tryd.func24, Tryd.ntmps24
    go_wp2
    exact bodyPost_ret (v := .agg #[.int .u8 2, .int .i64 a, .int .i64 b, .int .i64 c, .int .i64 d]) (by simp [results, Tryd.results24, go_sem]) rfl ⟨rfl, ((Below.refl _ _).alloc (Nat.le_refl _) _).alloc (by simp) _⟩
  by_cases h2 : k = 2
  · subst h2
    have e : invO 2 = 1 := rfl
    rw [e]; clear e
    go_enter Tryd.func24, Tryd.ntmps24
    go_wp2
    exact bodyPost_ret (v := .agg #[.int .u8 1, .int .i64 a, .int .i64 b, .int .i64 c, .int .i64 d]) (by simp [results, Tryd.results24, go_sem]) rfl ⟨rfl, ((Below.refl _ _).alloc (Nat.le_refl _) _).alloc (by simp) _⟩
  by_cases h4 : k = 4
  · subst h4
    have e : invO 4 = 5 := rfl
    rw [e]; clear e
    go_enter Tryd.func24, Tryd.ntmps24
    go_wp2
    exact bodyPost_ret (v := .agg #[.int .u8 5, .int .i64 a, .int .i64 b, .int .i64 c, .int .i64 d]) (by simp [results, Tryd.results24, go_sem]) rfl ⟨rfl, ((Below.refl _ _).alloc (Nat.le_refl _) _).alloc (by simp) _⟩
  by_cases h5 : k = 5
  · subst h5
    have e : invO 5 = 4 := rfl
    rw [e]; clear e
    go_enter Tryd.func24, Tryd.ntmps24
    go_wp2
    exact bodyPost_ret (v := .agg #[.int .u8 4, .int .i64 a, .int .i64 b, .int .i64 c, .int .i64 d]) (by simp [results, Tryd.results24, go_sem]) rfl ⟨rfl, ((Below.refl _ _).alloc (Nat.le_refl _) _).alloc (by simp) _⟩
  by_cases h12 : k = 12
  · subst h12
    have e : invO 12 = 13 := rfl
    rw [e]; clear e
    go_enter Tryd.func24, Tryd.ntmps24
    go_wp2
    exact bodyPost_ret (v := .agg #[.int .u8 13, .int .i64 a, .int .i64 b, .int .i64 c, .int .i64 d]) (by simp [results, Tryd.results24, go_sem]) rfl ⟨rfl, ((Below.refl _ _).alloc (Nat.le_refl _) _).alloc (by simp) _⟩
  by_cases h13 : k = 13
  · subst h13
    have e : invO 13 = 12 := rfl
    rw [e]; clear e
    go_enter Tryd.func24, Tryd.ntmps24
    go_wp2
    exact bodyPost_ret (v := .agg #[.int .u8 12, .int .i64 a, .int .i64 b, .int .i64 c, .int .i64 d]) (by simp [results, Tryd.results24, go_sem]) rfl ⟨rfl, ((Below.refl _ _).alloc (Nat.le_refl _) _).alloc (by simp) _⟩
  by_cases h17 : k = 17
  · subst h17
    have e : invO 17 = 18 := rfl
    rw [e]; clear e
    go_enter Tryd.func24, Tryd.ntmps24
    go_wp2
    exact bodyPost_ret (v := .agg #[.int .u8 18, .int .i64 a, .int .i64 b, .int .i64 c, .int .i64 d]) (by simp [results, Tryd.results24, go_sem]) rfl ⟨rfl, ((Below.refl _ _).alloc (Nat.le_refl _) _).alloc (by simp) _⟩
  by_cases h18 : k = 18
  · subst h18
    have e : invO 18 = 17 := rfl
    rw [e]; clear e
    go_enter Tryd.func24, Tryd.ntmps24
    go_wp2
    exact bodyPost_ret (v := .agg #[.int .u8 17, .int .i64 a, .int .i64 b, .int .i64 c, .int .i64 d]) (by simp [results, Tryd.results24, go_sem]) rfl ⟨rfl, ((Below.refl _ _).alloc (Nat.le_refl _) _).alloc (by simp) _⟩
  by_cases h19 : k = 19
  · subst h19
    have e : invO 19 = 20 := rfl
    rw [e]; clear e
    go_enter Tryd.func24, Tryd.ntmps24
    go_wp2
    exact bodyPost_ret (v := .agg #[.int .u8 20, .int .i64 a, .int .i64 b, .int .i64 c, .int .i64 d]) (by simp [results, Tryd.results24, go_sem]) rfl ⟨rfl, ((Below.refl _ _).alloc (Nat.le_refl _) _).alloc (by simp) _⟩
  by_cases h20 : k = 20
  · subst h20
    have e : invO 20 = 19 := rfl
    rw [e]; clear e
    go_enter Tryd.func24, Tryd.ntmps24
    go_wp2
    exact bodyPost_ret (v := .agg #[.int .u8 19, .int .i64 a, .int .i64 b, .int .i64 c, .int .i64 d]) (by simp [results, Tryd.results24, go_sem]) rfl ⟨rfl, ((Below.refl _ _).alloc (Nat.le_refl _) _).alloc (by simp) _⟩
  by_cases h22 : k = 22
  · subst h22
    have e : invO 22 = 25 := rfl
    rw [e]; clear e
    go_enter Tryd.func24, Tryd.ntmps24
    go_wp2
    exact bodyPost_ret (v := .agg #[.int .u8 25, .int .i64 a, .int .i64 b, .int .i64 c, .int .i64 d]) (by simp [results, Tryd.results24, go_sem]) rfl ⟨rfl, ((Below.refl _ _).alloc (Nat.le_refl _) _).alloc (by simp) _⟩
  by_cases h23 : k = 23
  · subst h23
    have e : invO 23 = 26 := rfl
    rw [e]; clear e
    go_enter Tryd.func24, Tryd.ntmps24
    go_wp2
    exact bodyPost_ret (v := .agg #[.int .u8 26, .int .i64 a, .int .i64 b, .int .i64 c, .int .i64 d]) (by simp [results, Tryd.results24, go_sem]) rfl ⟨rfl, ((Below.refl _ _).alloc (Nat.le_refl _) _).alloc (by simp) _⟩
  by_cases h24 : k = 24
  · subst h24
    have e : invO 24 = 27 := rfl
    rw [e]; clear e
    go_enter Tryd.func24, Tryd.ntmps24
    go_wp2
    exact bodyPost_ret (v := .agg #[.int .u8 27, .int .i64 a, .int .i64 b, .int .i64 c, .int .i64 d]) (by simp [results, Tryd.results24, go_sem]) rfl ⟨rfl, ((Below.refl _ _).alloc (Nat.le_refl _) _).alloc (by simp) _⟩
  by_cases h25 : k = 25
  · subst h25
    have e : invO 25 = 22 := rfl
    rw [e]; clear e
    go_enter Tryd.func24, Tryd.ntmps24
    go_wp2
    exact bodyPost_ret (v := .agg #[.int .u8 22, .int .i64 a, .int .i64 b, .int .i64 c, .int .i64 d]) (by simp [results, Tryd.results24, go_sem]) rfl ⟨rfl, ((Below.refl _ _).alloc (Nat.le_refl _) _).alloc (by simp) _⟩
  by_cases h26 : k = 26
  · subst h26
    have e : invO 26 = 23 := rfl
    rw [e]; clear e
    go_enter Tryd.func24, Tryd.ntmps24
    go_wp2
    exact bodyPost_ret (v := .agg #[.int .u8 23, .int .i64 a, .int .i64 b, .int .i64 c, .int .i64 d]) (by simp [results, Tryd.results24, go_sem]) rfl ⟨rfl, ((Below.refl _ _).alloc (Nat.le_refl _) _).alloc (by simp) _⟩
  by_cases h27 : k = 27
  · subst h27
    have e : invO 27 = 24 := rfl
    rw [e]; clear e
    go_enter Tryd.func24, Tryd.ntmps24
    go_wp2
    exact bodyPost_ret (v := .agg #[.int .u8 24, .int .i64 a, .int .i64 b, .int .i64 c, .int .i64 d]) (by simp [results, Tryd.results24, go_sem]) rfl ⟨rfl, ((Below.refl _ _).alloc (Nat.le_refl _) _).alloc (by simp) _⟩
  by_cases h28 : k = 28
  · subst h28
    have e : invO 28 = 29 := rfl
    rw [e]; clear e
    go_enter Tryd.func24, Tryd.ntmps24
    go_wp2
    exact bodyPost_ret (v := .agg #[.int .u8 29, .int .i64 a, .int .i64 b, .int .i64 c, .int .i64 d]) (by simp [results, Tryd.results24, go_sem]) rfl ⟨rfl, ((Below.refl _ _).alloc (Nat.le_refl _) _).alloc (by simp) _⟩
  by_cases h29 : k = 29
  · subst h29
    have e : invO 29 = 28 := rfl
    rw [e]; clear e
    go_enter Tryd.func24, Tryd.ntmps24
    go_wp2
    exact bodyPost_ret (v := .agg #[.int .u8 28, .int .i64 a, .int .i64 b, .int .i64 c, .int .i64 d]) (by simp [results, Tryd.results24, go_sem]) rfl ⟨rfl, ((Below.refl _ _).alloc (Nat.le_refl _) _).alloc (by simp) _⟩
  by_cases h32 : k = 32
  · subst h32
    have e : invO 32 = 33 := rfl
    rw [e]; clear e
    go_enter Tryd.func24, Tryd.ntmps24
    go_wp2
    exact bodyPost_ret (v := .agg #[.int .u8 33, .int .i64 a, .int .i64 b, .int .i64 c, .int .i64 d]) (by simp [results, Tryd.results24, go_sem]) rfl ⟨rfl, ((Below.refl _ _).alloc (Nat.le_refl _) _).alloc (by simp) _⟩
  by_cases h33 : k = 33
  · subst h33
    have e : invO 33 = 32 := rfl
    rw [e]; clear e
    go_enter Tryd.func24, Tryd.ntmps24
    go_wp2
    exact bodyPost_ret (v := .agg #[.int .u8 32, .int .i64 a, .int .i64 b, .int .i64 c, .int .i64 d]) (by simp [results, Tryd.results24, go_sem]) rfl ⟨rfl, ((Below.refl _ _).alloc (Nat.le_refl _) _).alloc (by simp) _⟩
  have e : invO k = k := invO_other k (by omega)
  rw [e]; clear e
  go_enter Tryd.func24, Tryd.ntmps24
  go_wp2
  exact bodyPost_ret (v := .agg #[.int .u8 k, .int .i64 a, .int .i64 b, .int .i64 c, .int .i64 d]) (by simp [results, Tryd.results24, go_sem]) rfl ⟨rfl, ((Below.refl _ _).alloc (Nat.le_refl _) _).alloc (by simp) _⟩
end Go.Proofs.YtfhojpnofmlkdaaDoor
