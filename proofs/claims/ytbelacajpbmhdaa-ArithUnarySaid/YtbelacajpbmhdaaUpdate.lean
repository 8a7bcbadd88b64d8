/- The contracts of the unary operators, the updates and their inverses. -/
import Derived.Test.YtbelacajpbmhdaaApply
namespace Go.Proofs.Ytbelacajpbmhdaa
open Go.ChangeShapes Go.WideShapes Go.ChangeAt Go.RowKit
set_option linter.unusedSimpArgs false
set_option linter.unusedVariables false
def unv (k x : Int) : Int := if k = 6 then wrap64 (-x) else if k = 7 then b2i (decide (x = 0)) else 0
def une (k : Int) : Int := if k = 6 ∨ k = 7 then 0 else 7
def upv (k x y : Int) : Int := if k = 40 then wrap64 (x + y) else if k = 41 then wrap64 (x - y) else if k = 42 then bits .xor .i64 x y else 0
def upe (k : Int) : Int := if k = 40 ∨ k = 41 ∨ k = 42 then 0 else 7

set_option maxHeartbeats 1000000 in
theorem unary_any (k x : Int) (w : World) :
    Calls Try.prog 13 #[.int .u8 k, .int .i64 x] w fun e w' => e = .returned (.tuple #[.int .i64 (unv k x), .int .i64 (une k)]) ∧ w = w' := by
  by_cases h6 : k = 6
  · subst h6; go_enter Try.func13, Try.ntmps13; go_wp2; go_ret2; exact ⟨by simp [unv, une, upv, upe, b2i, *], rfl⟩
  by_cases h7 : k = 7
  · subst h7
    by_cases hx : x = 0
    · subst hx; go_enter Try.func13, Try.ntmps13; go_wp2; go_ret2; exact ⟨by simp [unv, une, upv, upe, b2i, *], rfl⟩
    · go_enter Try.func13, Try.ntmps13; go_wp2; go_ret2; exact ⟨by simp [unv, une, upv, upe, b2i, *], rfl⟩
  go_enter Try.func13, Try.ntmps13; go_wp2; go_ret2; exact ⟨by simp [unv, une, upv, upe, b2i, *], rfl⟩

set_option maxHeartbeats 1000000 in
theorem refUnary_any (k x : Int) (w : World) :
    Calls Try.prog 14 #[.int .u8 k, .int .i64 x] w fun e w' => e = .returned (.tuple #[.int .i64 (unv k x), .int .i64 (une k)]) ∧ w = w' := by
  by_cases h6 : k = 6
  · subst h6; go_enter Try.func14, Try.ntmps14; go_wp2; go_ret2; exact ⟨by simp [unv, une, upv, upe, b2i, *], rfl⟩
  by_cases h7 : k = 7
  · subst h7
    by_cases hx : x = 0
    · subst hx; go_enter Try.func14, Try.ntmps14; go_wp2; go_ret2; exact ⟨by simp [unv, une, upv, upe, b2i, *], rfl⟩
    · go_enter Try.func14, Try.ntmps14; go_wp2; go_ret2; exact ⟨by simp [unv, une, upv, upe, b2i, *], rfl⟩
  go_enter Try.func14, Try.ntmps14; go_wp2; go_ret2; exact ⟨by simp [unv, une, upv, upe, b2i, *], rfl⟩

set_option maxHeartbeats 1000000 in
theorem update_any (k x y : Int) (w : World) :
    Calls Try.prog 15 #[.int .u8 k, .int .i64 x, .int .i64 y] w fun e w' => e = .returned (.tuple #[.int .i64 (upv k x y), .int .i64 (upe k)]) ∧ w = w' := by
  by_cases h40 : k = 40
  · subst h40; go_enter Try.func15, Try.ntmps15; go_wp2; go_ret2; exact ⟨by simp [unv, une, upv, upe, b2i, *], rfl⟩
  by_cases h41 : k = 41
  · subst h41; go_enter Try.func15, Try.ntmps15; go_wp2; go_ret2; exact ⟨by simp [unv, une, upv, upe, b2i, *], rfl⟩
  by_cases h42 : k = 42
  · subst h42; go_enter Try.func15, Try.ntmps15; go_wp2; go_ret2; exact ⟨by simp [unv, une, upv, upe, b2i, *], rfl⟩
  go_enter Try.func15, Try.ntmps15; go_wp2; go_ret2; exact ⟨by simp [unv, une, upv, upe, b2i, *], rfl⟩

set_option maxHeartbeats 1000000 in
theorem refUpdate_any (k x y : Int) (w : World) :
    Calls Try.prog 16 #[.int .u8 k, .int .i64 x, .int .i64 y] w fun e w' => e = .returned (.tuple #[.int .i64 (upv k x y), .int .i64 (upe k)]) ∧ w = w' := by
  by_cases h40 : k = 40
  · subst h40; go_enter Try.func16, Try.ntmps16; go_wp2; go_ret2; exact ⟨by simp [unv, une, upv, upe, b2i, *], rfl⟩
  by_cases h41 : k = 41
  · subst h41; go_enter Try.func16, Try.ntmps16; go_wp2; go_ret2; exact ⟨by simp [unv, une, upv, upe, b2i, *], rfl⟩
  by_cases h42 : k = 42
  · subst h42; go_enter Try.func16, Try.ntmps16; go_wp2; go_ret2; exact ⟨by simp [unv, une, upv, upe, b2i, *], rfl⟩
  go_enter Try.func16, Try.ntmps16; go_wp2; go_ret2; exact ⟨by simp [unv, une, upv, upe, b2i, *], rfl⟩

/-- the inverse of an update -/
def ivk (k : Int) : Int := if k = 40 then 41 else if k = 41 then 40 else if k = 42 then 42 else 0
def ivo (k : Int) : Bool := decide (k = 40 ∨ k = 41 ∨ k = 42)
set_option maxHeartbeats 1000000 in
theorem inverse_any (k : Int) (w : World) :
    Calls Try.prog 18 #[.int .u8 k] w fun e w' => e = .returned (.tuple #[.int .u8 (ivk k), .bool (ivo k)]) ∧ w = w' := by
  by_cases h40 : k = 40
  · subst h40; go_enter Try.func18, Try.ntmps18; go_wp2; go_ret2; exact ⟨by simp [ivk, ivo, *], rfl⟩
  by_cases h41 : k = 41
  · subst h41; go_enter Try.func18, Try.ntmps18; go_wp2; go_ret2; exact ⟨by simp [ivk, ivo, *], rfl⟩
  by_cases h42 : k = 42
  · subst h42; go_enter Try.func18, Try.ntmps18; go_wp2; go_ret2; exact ⟨by simp [ivk, ivo, *], rfl⟩
  go_enter Try.func18, Try.ntmps18; go_wp2; go_ret2; exact ⟨by simp [ivk, ivo, *], rfl⟩
theorem truth_any (x : Int) (w : World) :
    Calls Try.prog 17 #[.int .i64 x] w fun e w' => e = .returned (.int .i64 (b2i (decide (x ≠ 0)))) ∧ w = w' := by
  by_cases hx : x = 0
  · subst hx; go_enter Try.func17, Try.ntmps17; go_wp2; go_ret; exact ⟨by simp [b2i], rfl⟩
  · go_enter Try.func17, Try.ntmps17; go_wp2; go_ret; exact ⟨by simp [b2i, hx], rfl⟩
theorem wf64 (x : Int) (h : (Lit.int .i64 x).wf = true) : -9223372036854775808 ≤ x ∧ x ≤ 9223372036854775807 := by
  have h2 : IntKind.i64.min = -9223372036854775808 := by decide
  have h3 : IntKind.i64.max = 9223372036854775807 := by decide
  simp [Lit.wf] at h
  omega
theorem add_sub (x y : Int) (h : -9223372036854775808 ≤ x ∧ x ≤ 9223372036854775807) : wrap64 (wrap64 (x + y) - y) = x := by
  unfold wrap64; omega
theorem sub_add (x y : Int) (h : -9223372036854775808 ≤ x ∧ x ≤ 9223372036854775807) : wrap64 (wrap64 (x - y) + y) = x := by
  unfold wrap64; omega
theorem ofInt_wrap (n : Nat) (hn : n < 18446744073709551616) : BitVec.ofInt 64 (IntKind.i64.wrap (n : Int)) = BitVec.ofNat 64 n := by
  apply BitVec.eq_of_toNat_eq
  rw [IntKind.wrap_i64, BitVec.toNat_ofInt, BitVec.toNat_ofNat]
  omega
theorem bits_xor_ofInt (x y : Int) : BitVec.ofInt 64 (bits .xor .i64 x y) = BitVec.ofInt 64 x ^^^ BitVec.ofInt 64 y := by
  show BitVec.ofInt 64 (IntKind.i64.wrap ((BitVec.ofInt 64 x ^^^ BitVec.ofInt 64 y).toNat : Int)) = _
  rw [ofInt_wrap _ (BitVec.isLt _), BitVec.ofNat_toNat, BitVec.setWidth_eq]
theorem wrap_ofInt (x : Int) (h : -9223372036854775808 ≤ x ∧ x ≤ 9223372036854775807) : IntKind.i64.wrap ((BitVec.ofInt 64 x).toNat : Int) = x := by
  rw [IntKind.wrap_i64, BitVec.toNat_ofInt]
  omega
theorem xor_xor (x y : Int) (h : -9223372036854775808 ≤ x ∧ x ≤ 9223372036854775807) : bits .xor .i64 (bits .xor .i64 x y) y = x := by
  show IntKind.i64.wrap ((BitVec.ofInt 64 (bits .xor .i64 x y) ^^^ BitVec.ofInt 64 y).toNat : Int) = x
  rw [bits_xor_ofInt, BitVec.xor_assoc, BitVec.xor_self, BitVec.xor_zero]
  exact wrap_ofInt x h
theorem add_inj (x z y : Int) (hx : -9223372036854775808 ≤ x ∧ x ≤ 9223372036854775807) (hz : -9223372036854775808 ≤ z ∧ z ≤ 9223372036854775807) (h : wrap64 (x + y) = wrap64 (z + y)) : x = z := by
  rw [← add_sub x y hx, ← add_sub z y hz, h]
theorem sub_inj (x z y : Int) (hx : -9223372036854775808 ≤ x ∧ x ≤ 9223372036854775807) (hz : -9223372036854775808 ≤ z ∧ z ≤ 9223372036854775807) (h : wrap64 (x - y) = wrap64 (z - y)) : x = z := by
  rw [← sub_add x y hx, ← sub_add z y hz, h]
theorem xor_inj (x z y : Int) (hx : -9223372036854775808 ≤ x ∧ x ≤ 9223372036854775807) (hz : -9223372036854775808 ≤ z ∧ z ≤ 9223372036854775807) (h : bits .xor .i64 x y = bits .xor .i64 z y) : x = z := by
  rw [← xor_xor x y hx, ← xor_xor z y hz, h]
/-- an update and its inverse restore the old value -/
theorem upv_back (k x y : Int) (hk : k = 40 ∨ k = 41 ∨ k = 42) (h : -9223372036854775808 ≤ x ∧ x ≤ 9223372036854775807) : upv (ivk k) (upv k x y) y = x := by
  rcases hk with rfl | rfl | rfl
  · exact add_sub x y h
  · exact sub_add x y h
  · exact xor_xor x y h
theorem upv_inj (k x z y : Int) (hk : k = 40 ∨ k = 41 ∨ k = 42) (hx : -9223372036854775808 ≤ x ∧ x ≤ 9223372036854775807) (hz : -9223372036854775808 ≤ z ∧ z ≤ 9223372036854775807) (h : upv k x y = upv k z y) : x = z := by
  rcases hk with rfl | rfl | rfl
  · exact add_inj x z y hx hz h
  · exact sub_inj x z y hx hz h
  · exact xor_inj x z y hx hz h
end Go.Proofs.Ytbelacajpbmhdaa
