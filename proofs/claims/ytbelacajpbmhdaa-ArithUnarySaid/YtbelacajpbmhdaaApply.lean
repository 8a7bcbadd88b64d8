/- The operators' values as plain functions, and the contracts of the two functions that apply a binary operator. -/
import Derived.Test.YtbelacajpbmhdaaRows
import Derived.WalkKit
import Derived.ProofKit
import Derived.IntWalk
import Derived.Laws.BitsAll
namespace Go.Proofs.Ytbelacajpbmhdaa
open Go.ChangeShapes Go.WideShapes Go.ChangeAt Go.RowKit
set_option linter.unusedSimpArgs false
set_option linter.unusedVariables false

/-- 1 for true, 0 for false -/
def b2i (b : Bool) : Int := if b then 1 else 0
/-- the value of operator k at x and y -/
def apv (k x y : Int) : Int :=
  if k = 8 then wrap64 (x + y) else if k = 9 then wrap64 (x - y) else if k = 10 then wrap64 (x * y)
  else if k = 11 then (if y = 0 then 0 else wrap64 (x.tdiv y)) else if k = 12 then (if y = 0 then 0 else x.tmod y)
  else if k = 13 then bits .and .i64 x y else if k = 14 then bits .or .i64 x y else if k = 15 then bits .xor .i64 x y
  else if k = 16 then b2i (decide (x = y)) else if k = 17 then b2i (decide (x ≠ y)) else if k = 18 then b2i (decide (x < y))
  else if k = 19 then b2i (decide (x ≤ y)) else if k = 20 then b2i (decide (y < x)) else if k = 21 then b2i (decide (y ≤ x))
  else if k = 22 then b2i (decide (x ≠ 0 ∧ y ≠ 0)) else if k = 23 then b2i (decide (x ≠ 0 ∨ y ≠ 0)) else 0
/-- its error -/
def ape (k y : Int) : Int :=
  if k = 11 ∨ k = 12 then (if y = 0 then 11 else 0) else if 8 ≤ k ∧ k ≤ 23 then 0 else 7

set_option maxHeartbeats 2000000 in
theorem apply_any (k x y : Int) (w : World) :
    Calls Try.prog 11 #[.int .u8 k, .int .i64 x, .int .i64 y] w fun e w' => e = .returned (.tuple #[.int .i64 (apv k x y), .int .i64 (ape k y)]) ∧ w = w' := by
  by_cases h8 : k = 8
  · subst h8
    go_enter Try.func11, Try.ntmps11; go_wp2; go_ret2; exact ⟨by simp [apv, ape, b2i, *], rfl⟩
  by_cases h9 : k = 9
  · subst h9
    go_enter Try.func11, Try.ntmps11; go_wp2; go_ret2; exact ⟨by simp [apv, ape, b2i, *], rfl⟩
  by_cases h10 : k = 10
  · subst h10
    go_enter Try.func11, Try.ntmps11; go_wp2; go_ret2; exact ⟨by simp [apv, ape, b2i, *], rfl⟩
  by_cases h11 : k = 11
  · subst h11
    by_cases hy : y = 0
    · subst hy; go_enter Try.func11, Try.ntmps11; go_wp2; go_ret2; exact ⟨by simp [apv, ape, b2i, *], rfl⟩
    · go_enter Try.func11, Try.ntmps11; go_wp2; go_ret2; exact ⟨by simp [apv, ape, b2i, *], rfl⟩
  by_cases h12 : k = 12
  · subst h12
    by_cases hy : y = 0
    · subst hy; go_enter Try.func11, Try.ntmps11; go_wp2; go_ret2; exact ⟨by simp [apv, ape, b2i, *], rfl⟩
    · go_enter Try.func11, Try.ntmps11; go_wp2; go_ret2; exact ⟨by simp [apv, ape, b2i, *], rfl⟩
  by_cases h13 : k = 13
  · subst h13
    go_enter Try.func11, Try.ntmps11; go_wp2; go_ret2; exact ⟨by simp [apv, ape, b2i, *], rfl⟩
  by_cases h14 : k = 14
  · subst h14
    go_enter Try.func11, Try.ntmps11; go_wp2; go_ret2; exact ⟨by simp [apv, ape, b2i, *], rfl⟩
  by_cases h15 : k = 15
  · subst h15
    go_enter Try.func11, Try.ntmps11; go_wp2; go_ret2; exact ⟨by simp [apv, ape, b2i, *], rfl⟩
  by_cases h16 : k = 16
  · subst h16
    by_cases hxy : x = y
    · subst hxy; go_enter Try.func11, Try.ntmps11; go_wp2; go_ret2; exact ⟨by simp [apv, ape, b2i, *], rfl⟩
    · go_enter Try.func11, Try.ntmps11; go_wp2; go_ret2; exact ⟨by simp [apv, ape, b2i, *], rfl⟩
  by_cases h17 : k = 17
  · subst h17
    by_cases hxy : x = y
    · subst hxy; go_enter Try.func11, Try.ntmps11; go_wp2; go_ret2; exact ⟨by simp [apv, ape, b2i, *], rfl⟩
    · go_enter Try.func11, Try.ntmps11; go_wp2; go_ret2; exact ⟨by simp [apv, ape, b2i, *], rfl⟩
  by_cases h18 : k = 18
  · subst h18
    rcases (by omega : x < y ∨ x = y ∨ y < x) with hxy | hxy | hxy
    · go_enter Try.func11, Try.ntmps11; go_wp2; go_ret2; exact ⟨by simp [apv, ape, b2i, *]; try omega, rfl⟩
    · subst hxy; go_enter Try.func11, Try.ntmps11; go_wp2; go_ret2; exact ⟨by simp [apv, ape, b2i, *]; try omega, rfl⟩
    · go_enter Try.func11, Try.ntmps11; go_wp2; go_ret2; exact ⟨by simp [apv, ape, b2i, *]; try omega, rfl⟩
  by_cases h19 : k = 19
  · subst h19
    rcases (by omega : x < y ∨ x = y ∨ y < x) with hxy | hxy | hxy
    · go_enter Try.func11, Try.ntmps11; go_wp2; go_ret2; exact ⟨by simp [apv, ape, b2i, *]; try omega, rfl⟩
    · subst hxy; go_enter Try.func11, Try.ntmps11; go_wp2; go_ret2; exact ⟨by simp [apv, ape, b2i, *]; try omega, rfl⟩
    · go_enter Try.func11, Try.ntmps11; go_wp2; go_ret2; exact ⟨by simp [apv, ape, b2i, *]; try omega, rfl⟩
  by_cases h20 : k = 20
  · subst h20
    rcases (by omega : x < y ∨ x = y ∨ y < x) with hxy | hxy | hxy
    · go_enter Try.func11, Try.ntmps11; go_wp2; go_ret2; exact ⟨by simp [apv, ape, b2i, *]; try omega, rfl⟩
    · subst hxy; go_enter Try.func11, Try.ntmps11; go_wp2; go_ret2; exact ⟨by simp [apv, ape, b2i, *]; try omega, rfl⟩
    · go_enter Try.func11, Try.ntmps11; go_wp2; go_ret2; exact ⟨by simp [apv, ape, b2i, *]; try omega, rfl⟩
  by_cases h21 : k = 21
  · subst h21
    rcases (by omega : x < y ∨ x = y ∨ y < x) with hxy | hxy | hxy
    · go_enter Try.func11, Try.ntmps11; go_wp2; go_ret2; exact ⟨by simp [apv, ape, b2i, *]; try omega, rfl⟩
    · subst hxy; go_enter Try.func11, Try.ntmps11; go_wp2; go_ret2; exact ⟨by simp [apv, ape, b2i, *]; try omega, rfl⟩
    · go_enter Try.func11, Try.ntmps11; go_wp2; go_ret2; exact ⟨by simp [apv, ape, b2i, *]; try omega, rfl⟩
  by_cases h22 : k = 22
  · subst h22
    by_cases hx : x = 0
    · subst hx
      by_cases hy : y = 0
      · subst hy; go_enter Try.func11, Try.ntmps11; go_wp2; go_ret2; exact ⟨by simp [apv, ape, b2i, *], rfl⟩
      · go_enter Try.func11, Try.ntmps11; go_wp2; go_ret2; exact ⟨by simp [apv, ape, b2i, *], rfl⟩
    · by_cases hy : y = 0
      · subst hy; go_enter Try.func11, Try.ntmps11; go_wp2; go_ret2; exact ⟨by simp [apv, ape, b2i, *], rfl⟩
      · have bx : (x != 0) = true := by simpa using hx
        have bz : (y != 0) = true := by simpa using hy
        go_enter Try.func11, Try.ntmps11; go_wp2; go_ret2; exact ⟨by simp [apv, ape, b2i, *], rfl⟩
  by_cases h23 : k = 23
  · subst h23
    by_cases hx : x = 0
    · subst hx
      by_cases hy : y = 0
      · subst hy; go_enter Try.func11, Try.ntmps11; go_wp2; go_ret2; exact ⟨by simp [apv, ape, b2i, *], rfl⟩
      · go_enter Try.func11, Try.ntmps11; go_wp2; go_ret2; exact ⟨by simp [apv, ape, b2i, *], rfl⟩
    · by_cases hy : y = 0
      · subst hy; go_enter Try.func11, Try.ntmps11; go_wp2; go_ret2; exact ⟨by simp [apv, ape, b2i, *], rfl⟩
      · have bx : (x != 0) = true := by simpa using hx
        have bz : (y != 0) = true := by simpa using hy
        go_enter Try.func11, Try.ntmps11; go_wp2; go_ret2; exact ⟨by simp [apv, ape, b2i, *], rfl⟩
  have ho : k < 8 ∨ 23 < k := by omega
  have e1 : apv k x y = 0 := by unfold apv; simp [h8, h9, h10, h11, h12, h13, h14, h15, h16, h17, h18, h19, h20, h21, h22, h23]
  have e2 : ape k y = 7 := by unfold ape; rw [if_neg (by omega), if_neg (by omega)]
  rw [e1, e2]; clear e1 e2
  go_enter Try.func11, Try.ntmps11
  go_wp2
  go_ret2
  exact ⟨rfl, rfl⟩

set_option maxHeartbeats 2000000 in
theorem refApply_any (k x y : Int) (w : World) :
    Calls Try.prog 12 #[.int .u8 k, .int .i64 x, .int .i64 y] w fun e w' => e = .returned (.tuple #[.int .i64 (apv k x y), .int .i64 (ape k y)]) ∧ w = w' := by
  by_cases h8 : k = 8
  · subst h8
    go_enter Try.func12, Try.ntmps12; go_wp2; go_ret2; exact ⟨by simp [apv, ape, b2i, *], rfl⟩
  by_cases h9 : k = 9
  · subst h9
    go_enter Try.func12, Try.ntmps12; go_wp2; go_ret2; exact ⟨by simp [apv, ape, b2i, *], rfl⟩
  by_cases h10 : k = 10
  · subst h10
    go_enter Try.func12, Try.ntmps12; go_wp2; go_ret2; exact ⟨by simp [apv, ape, b2i, *], rfl⟩
  by_cases h11 : k = 11
  · subst h11
    by_cases hy : y = 0
    · subst hy; go_enter Try.func12, Try.ntmps12; go_wp2; go_ret2; exact ⟨by simp [apv, ape, b2i, *], rfl⟩
    · go_enter Try.func12, Try.ntmps12; go_wp2; go_ret2; exact ⟨by simp [apv, ape, b2i, *], rfl⟩
  by_cases h12 : k = 12
  · subst h12
    by_cases hy : y = 0
    · subst hy; go_enter Try.func12, Try.ntmps12; go_wp2; go_ret2; exact ⟨by simp [apv, ape, b2i, *], rfl⟩
    · go_enter Try.func12, Try.ntmps12; go_wp2; go_ret2; exact ⟨by simp [apv, ape, b2i, *], rfl⟩
  by_cases h13 : k = 13
  · subst h13
    go_enter Try.func12, Try.ntmps12; go_wp2; go_ret2; exact ⟨by simp [apv, ape, b2i, *], rfl⟩
  by_cases h14 : k = 14
  · subst h14
    go_enter Try.func12, Try.ntmps12; go_wp2; go_ret2; exact ⟨by simp [apv, ape, b2i, *], rfl⟩
  by_cases h15 : k = 15
  · subst h15
    go_enter Try.func12, Try.ntmps12; go_wp2; go_ret2; exact ⟨by simp [apv, ape, b2i, *], rfl⟩
  by_cases h16 : k = 16
  · subst h16
    by_cases hxy : x = y
    · subst hxy; go_enter Try.func12, Try.ntmps12; go_wp2; go_ret2; exact ⟨by simp [apv, ape, b2i, *], rfl⟩
    · go_enter Try.func12, Try.ntmps12; go_wp2; go_ret2; exact ⟨by simp [apv, ape, b2i, *], rfl⟩
  by_cases h17 : k = 17
  · subst h17
    by_cases hxy : x = y
    · subst hxy; go_enter Try.func12, Try.ntmps12; go_wp2; go_ret2; exact ⟨by simp [apv, ape, b2i, *], rfl⟩
    · go_enter Try.func12, Try.ntmps12; go_wp2; go_ret2; exact ⟨by simp [apv, ape, b2i, *], rfl⟩
  by_cases h18 : k = 18
  · subst h18
    rcases (by omega : x < y ∨ x = y ∨ y < x) with hxy | hxy | hxy
    · go_enter Try.func12, Try.ntmps12; go_wp2; go_ret2; exact ⟨by simp [apv, ape, b2i, *]; try omega, rfl⟩
    · subst hxy; go_enter Try.func12, Try.ntmps12; go_wp2; go_ret2; exact ⟨by simp [apv, ape, b2i, *]; try omega, rfl⟩
    · go_enter Try.func12, Try.ntmps12; go_wp2; go_ret2; exact ⟨by simp [apv, ape, b2i, *]; try omega, rfl⟩
  by_cases h19 : k = 19
  · subst h19
    rcases (by omega : x < y ∨ x = y ∨ y < x) with hxy | hxy | hxy
    · go_enter Try.func12, Try.ntmps12; go_wp2; go_ret2; exact ⟨by simp [apv, ape, b2i, *]; try omega, rfl⟩
    · subst hxy; go_enter Try.func12, Try.ntmps12; go_wp2; go_ret2; exact ⟨by simp [apv, ape, b2i, *]; try omega, rfl⟩
    · go_enter Try.func12, Try.ntmps12; go_wp2; go_ret2; exact ⟨by simp [apv, ape, b2i, *]; try omega, rfl⟩
  by_cases h20 : k = 20
  · subst h20
    rcases (by omega : x < y ∨ x = y ∨ y < x) with hxy | hxy | hxy
    · go_enter Try.func12, Try.ntmps12; go_wp2; go_ret2; exact ⟨by simp [apv, ape, b2i, *]; try omega, rfl⟩
    · subst hxy; go_enter Try.func12, Try.ntmps12; go_wp2; go_ret2; exact ⟨by simp [apv, ape, b2i, *]; try omega, rfl⟩
    · go_enter Try.func12, Try.ntmps12; go_wp2; go_ret2; exact ⟨by simp [apv, ape, b2i, *]; try omega, rfl⟩
  by_cases h21 : k = 21
  · subst h21
    rcases (by omega : x < y ∨ x = y ∨ y < x) with hxy | hxy | hxy
    · go_enter Try.func12, Try.ntmps12; go_wp2; go_ret2; exact ⟨by simp [apv, ape, b2i, *]; try omega, rfl⟩
    · subst hxy; go_enter Try.func12, Try.ntmps12; go_wp2; go_ret2; exact ⟨by simp [apv, ape, b2i, *]; try omega, rfl⟩
    · go_enter Try.func12, Try.ntmps12; go_wp2; go_ret2; exact ⟨by simp [apv, ape, b2i, *]; try omega, rfl⟩
  by_cases h22 : k = 22
  · subst h22
    by_cases hx : x = 0
    · subst hx
      by_cases hy : y = 0
      · subst hy; go_enter Try.func12, Try.ntmps12; go_wp2; go_ret2; exact ⟨by simp [apv, ape, b2i, *], rfl⟩
      · go_enter Try.func12, Try.ntmps12; go_wp2; go_ret2; exact ⟨by simp [apv, ape, b2i, *], rfl⟩
    · by_cases hy : y = 0
      · subst hy; go_enter Try.func12, Try.ntmps12; go_wp2; go_ret2; exact ⟨by simp [apv, ape, b2i, *], rfl⟩
      · have bx : (x != 0) = true := by simpa using hx
        have bz : (y != 0) = true := by simpa using hy
        go_enter Try.func12, Try.ntmps12; go_wp2; go_ret2; exact ⟨by simp [apv, ape, b2i, *], rfl⟩
  by_cases h23 : k = 23
  · subst h23
    by_cases hx : x = 0
    · subst hx
      by_cases hy : y = 0
      · subst hy; go_enter Try.func12, Try.ntmps12; go_wp2; go_ret2; exact ⟨by simp [apv, ape, b2i, *], rfl⟩
      · go_enter Try.func12, Try.ntmps12; go_wp2; go_ret2; exact ⟨by simp [apv, ape, b2i, *], rfl⟩
    · by_cases hy : y = 0
      · subst hy; go_enter Try.func12, Try.ntmps12; go_wp2; go_ret2; exact ⟨by simp [apv, ape, b2i, *], rfl⟩
      · have bx : (x != 0) = true := by simpa using hx
        have bz : (y != 0) = true := by simpa using hy
        go_enter Try.func12, Try.ntmps12; go_wp2; go_ret2; exact ⟨by simp [apv, ape, b2i, *], rfl⟩
  have ho : k < 8 ∨ 23 < k := by omega
  have e1 : apv k x y = 0 := by unfold apv; simp [h8, h9, h10, h11, h12, h13, h14, h15, h16, h17, h18, h19, h20, h21, h22, h23]
  have e2 : ape k y = 7 := by unfold ape; rw [if_neg (by omega), if_neg (by omega)]
  rw [e1, e2]; clear e1 e2
  go_enter Try.func12, Try.ntmps12
  go_wp2
  go_ret2
  exact ⟨rfl, rfl⟩
end Go.Proofs.Ytbelacajpbmhdaa
