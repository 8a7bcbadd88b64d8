/- Division: the divisor times the quotient, plus the remainder, is the dividend, in the arithmetic of 64 bits. -/
import Derived.Test.YtbelacajpbmhdaaUpdate
namespace Go.Proofs.Ytbelacajpbmhdaa
open Go.ChangeShapes Go.WideShapes Go.ChangeAt Go.RowKit
theorem wrap64_mul (a y : Int) : ∃ v, wrap64 (wrap64 a * y) = wrap64 (a * y) ∧ wrap64 a * y = a * y + 18446744073709551616 * v := by
  have h : wrap64 a = a + 18446744073709551616 * (-((a + 9223372036854775808) / 18446744073709551616)) := by unfold wrap64; omega
  refine ⟨-((a + 9223372036854775808) / 18446744073709551616) * y, ?_, ?_⟩
  · rw [h, Int.add_mul]
    have e : 18446744073709551616 * (-((a + 9223372036854775808) / 18446744073709551616)) * y = 18446744073709551616 * (-((a + 9223372036854775808) / 18446744073709551616) * y) := by rw [Int.mul_assoc]
    rw [e]
    generalize (-((a + 9223372036854775808) / 18446744073709551616) * y) = v
    generalize a * y = u
    unfold wrap64; omega
  · rw [h, Int.add_mul]
    have e : 18446744073709551616 * (-((a + 9223372036854775808) / 18446744073709551616)) * y = 18446744073709551616 * (-((a + 9223372036854775808) / 18446744073709551616) * y) := by rw [Int.mul_assoc]
    rw [e]
theorem div_back (x y : Int) (h : -9223372036854775808 ≤ x ∧ x ≤ 9223372036854775807) : wrap64 (wrap64 (wrap64 (x.tdiv y) * y) + x.tmod y) = x := by
  obtain ⟨v, hv, _⟩ := wrap64_mul (x.tdiv y) y
  rw [hv]
  have hd := Int.tdiv_mul_add_tmod x y
  generalize x.tdiv y * y = u at *
  generalize x.tmod y = r at *
  unfold wrap64; omega
theorem tmod_sign (x y : Int) : (0 ≤ x → 0 ≤ x.tmod y) ∧ (x ≤ 0 → x.tmod y ≤ 0) :=
  ⟨fun h => Int.tmod_nonneg y h, fun h => by
    have := Int.tmod_nonneg y (a := -x) (by omega)
    rw [Int.neg_tmod] at this; omega⟩
theorem tmod_small (x y : Int) (hy : ¬ y = 0) : (0 < y → -y < x.tmod y ∧ x.tmod y < y) ∧ (y < 0 → y < x.tmod y ∧ x.tmod y < -y) := by
  have hs := tmod_sign x y
  have h1 : x.tmod y < y.natAbs := by
    have := Int.tmod_lt_of_pos x (b := (y.natAbs : Int)) (by omega)
    rcases Int.natAbs_eq y with e | e
    · rw [← e] at this; omega
    · have h2 : x.tmod y = x.tmod (y.natAbs : Int) := by rw [e]; simp [Int.tmod_neg]
      omega
  have h3 : -(y.natAbs : Int) < x.tmod y := by
    have := Int.tmod_lt_of_pos (-x) (b := (y.natAbs : Int)) (by omega)
    rw [Int.neg_tmod] at this
    rcases Int.natAbs_eq y with e | e
    · rw [← e] at this; omega
    · have h2 : x.tmod y = x.tmod (y.natAbs : Int) := by rw [e]; simp [Int.tmod_neg]
      omega
  omega
end Go.Proofs.Ytbelacajpbmhdaa
