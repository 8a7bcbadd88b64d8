/- The law on comparisons, case by case, part 1. -/
import Derived.Test.YtbelacajpbmhdaaCmp
import Derived.Test.YtbelacajpbmhdaaAwake
import Derived.WalkSmall
import Derived.Below
namespace Go.Proofs.Ytbelacajpbmhdaa
open Go.ChangeShapes Go.WideShapes Go.ChangeAt Go.RowKit
set_option linter.unusedSimpArgs false
set_option linter.unusedVariables false
set_option maxHeartbeats 4000000 in
theorem cmp_lt_x0 (y : Int) (w : World) (h : 0 < y) :
    Calls Try.prog 8 #[.int .i64 0, .int .i64 y] w fun e w' => e = .returned (.bool true) ∧ Below w.heap.size w w' := by
  have t0 : b2i false = 0 := rfl
  have t1 : b2i true = 1 := rfl
  have hy : ¬ y = 0 := by omega
  have c16 : apv 16 0 y = 0 := by simp [apv, b2i, hy]; try omega
  have c17 : apv 17 0 y = 1 := by simp [apv, b2i, hy]; try omega
  have c18 : apv 18 0 y = 1 := by simp [apv, b2i, hy]; try omega
  have c19 : apv 19 0 y = 1 := by simp [apv, b2i, hy]; try omega
  have c20 : apv 20 0 y = 0 := by simp [apv, b2i, hy]; try omega
  have c21 : apv 21 0 y = 0 := by simp [apv, b2i, hy]; try omega
  have c22 : apv 22 0 y = 0 := by simp [apv, b2i, hy]; try omega
  have c23 : apv 23 0 y = 1 := by simp [apv, b2i, hy]; try omega
  go_enter Try.func8, Try.ntmps8
  go_wp2_with (first | (go_at_call 10; refine (awake_any _).mono ?_; rintro e w' ⟨rfl, rfl⟩) | (go_at_call 19; refine (v_box _ _ _ _ (by omega)).mono ?_; rintro e w' ⟨rfl, rfl⟩) | (go_at_call 20; refine (n_any _ _ _ rfl).mono ?_; rintro e w' ⟨rfl, rfl⟩))
  go_quiet ((first | (go_at_call 19; exact Calls.quiet_of_same (v_q _ _ _ _ _ (by omega))) | (go_at_call 20; exact Calls.quiet_of_same (n_q _ _ _ rfl))))
  go_wp2
  go_ret
  exact ⟨by simp [IntKind.wrap_i64, b2i], below_drewN (((Below.refl _ _).alloc (Nat.le_refl _) _).alloc (by simp) _) _⟩
set_option maxHeartbeats 4000000 in
theorem cmp_lt_y0 (x : Int) (w : World) (h : x < 0) :
    Calls Try.prog 8 #[.int .i64 x, .int .i64 0] w fun e w' => e = .returned (.bool true) ∧ Below w.heap.size w w' := by
  have t0 : b2i false = 0 := rfl
  have t1 : b2i true = 1 := rfl
  have hx : ¬ x = 0 := by omega
  have c16 : apv 16 x 0 = 0 := by simp [apv, b2i, hx]; try omega
  have c17 : apv 17 x 0 = 1 := by simp [apv, b2i, hx]; try omega
  have c18 : apv 18 x 0 = 1 := by simp [apv, b2i, hx]; try omega
  have c19 : apv 19 x 0 = 1 := by simp [apv, b2i, hx]; try omega
  have c20 : apv 20 x 0 = 0 := by simp [apv, b2i, hx]; try omega
  have c21 : apv 21 x 0 = 0 := by simp [apv, b2i, hx]; try omega
  have c22 : apv 22 x 0 = 0 := by simp [apv, b2i, hx]; try omega
  have c23 : apv 23 x 0 = 1 := by simp [apv, b2i, hx]; try omega
  go_enter Try.func8, Try.ntmps8
  go_wp2_with (first | (go_at_call 10; refine (awake_any _).mono ?_; rintro e w' ⟨rfl, rfl⟩) | (go_at_call 19; refine (v_box _ _ _ _ (by omega)).mono ?_; rintro e w' ⟨rfl, rfl⟩) | (go_at_call 20; refine (n_any _ _ _ rfl).mono ?_; rintro e w' ⟨rfl, rfl⟩))
  go_quiet ((first | (go_at_call 19; exact Calls.quiet_of_same (v_q _ _ _ _ _ (by omega))) | (go_at_call 20; exact Calls.quiet_of_same (n_q _ _ _ rfl))))
  go_wp2
  go_ret
  exact ⟨by simp [IntKind.wrap_i64, b2i], below_drewN (((Below.refl _ _).alloc (Nat.le_refl _) _).alloc (by simp) _) _⟩
set_option maxHeartbeats 4000000 in
theorem cmp_lt_nn (x y : Int) (w : World) (h : x < y) (hx : ¬ x = 0) (hy : ¬ y = 0) :
    Calls Try.prog 8 #[.int .i64 x, .int .i64 y] w fun e w' => e = .returned (.bool true) ∧ Below w.heap.size w w' := by
  have t0 : b2i false = 0 := rfl
  have t1 : b2i true = 1 := rfl
  have c16 : apv 16 x y = 0 := by simp [apv, b2i, hx, hy]; try omega
  have c17 : apv 17 x y = 1 := by simp [apv, b2i, hx, hy]; try omega
  have c18 : apv 18 x y = 1 := by simp [apv, b2i, hx, hy]; try omega
  have c19 : apv 19 x y = 1 := by simp [apv, b2i, hx, hy]; try omega
  have c20 : apv 20 x y = 0 := by simp [apv, b2i, hx, hy]; try omega
  have c21 : apv 21 x y = 0 := by simp [apv, b2i, hx, hy]; try omega
  have c22 : apv 22 x y = 1 := by simp [apv, b2i, hx, hy]; try omega
  have c23 : apv 23 x y = 1 := by simp [apv, b2i, hx, hy]; try omega
  go_enter Try.func8, Try.ntmps8
  go_wp2_with (first | (go_at_call 10; refine (awake_any _).mono ?_; rintro e w' ⟨rfl, rfl⟩) | (go_at_call 19; refine (v_box _ _ _ _ (by omega)).mono ?_; rintro e w' ⟨rfl, rfl⟩) | (go_at_call 20; refine (n_any _ _ _ rfl).mono ?_; rintro e w' ⟨rfl, rfl⟩))
  go_quiet ((first | (go_at_call 19; exact Calls.quiet_of_same (v_q _ _ _ _ _ (by omega))) | (go_at_call 20; exact Calls.quiet_of_same (n_q _ _ _ rfl))))
  go_wp2
  go_ret
  exact ⟨by simp [IntKind.wrap_i64, b2i], below_drewN (((Below.refl _ _).alloc (Nat.le_refl _) _).alloc (by simp) _) _⟩
set_option maxHeartbeats 4000000 in
theorem cmp_eq_0  (w : World)  :
    Calls Try.prog 8 #[.int .i64 0, .int .i64 0] w fun e w' => e = .returned (.bool true) ∧ Below w.heap.size w w' := by
  have t0 : b2i false = 0 := rfl
  have t1 : b2i true = 1 := rfl
  have c16 : apv 16 0 0 = 1 := by simp [apv, b2i]; try omega
  have c17 : apv 17 0 0 = 0 := by simp [apv, b2i]; try omega
  have c18 : apv 18 0 0 = 0 := by simp [apv, b2i]; try omega
  have c19 : apv 19 0 0 = 1 := by simp [apv, b2i]; try omega
  have c20 : apv 20 0 0 = 0 := by simp [apv, b2i]; try omega
  have c21 : apv 21 0 0 = 1 := by simp [apv, b2i]; try omega
  have c22 : apv 22 0 0 = 0 := by simp [apv, b2i]; try omega
  have c23 : apv 23 0 0 = 0 := by simp [apv, b2i]; try omega
  go_enter Try.func8, Try.ntmps8
  go_wp2_with (first | (go_at_call 10; refine (awake_any _).mono ?_; rintro e w' ⟨rfl, rfl⟩) | (go_at_call 19; refine (v_box _ _ _ _ (by omega)).mono ?_; rintro e w' ⟨rfl, rfl⟩) | (go_at_call 20; refine (n_any _ _ _ rfl).mono ?_; rintro e w' ⟨rfl, rfl⟩))
  go_quiet ((first | (go_at_call 19; exact Calls.quiet_of_same (v_q _ _ _ _ _ (by omega))) | (go_at_call 20; exact Calls.quiet_of_same (n_q _ _ _ rfl))))
  go_wp2
  go_ret
  exact ⟨by simp [IntKind.wrap_i64, b2i], below_drewN (((Below.refl _ _).alloc (Nat.le_refl _) _).alloc (by simp) _) _⟩
end Go.Proofs.Ytbelacajpbmhdaa
