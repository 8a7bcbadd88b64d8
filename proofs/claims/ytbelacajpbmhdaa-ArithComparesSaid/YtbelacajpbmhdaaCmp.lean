/- The closures of the law on comparisons. -/
import Derived.Test.YtbelacajpbmhdaaUpdate
import Derived.Deep.QuietTactic
import Derived.BigQuiet
namespace Go.Proofs.Ytbelacajpbmhdaa
open Go.ChangeShapes Go.WideShapes Go.ChangeAt Go.RowKit
set_option linter.unusedSimpArgs false
theorem v_any (k x y v : Int) (a b : Addr) (w : World) (ha : w.cell? a = some (.int .i64 x)) (hb : w.cell? b = some (.int .i64 y)) (he : ape k y = 0) (hv : apv k x y = v) :
    Calls Try.prog 19 #[.int .u8 k, .pointer (some a), .pointer (some b)] w fun e w' => e = .returned (.int .i64 v) ∧ w = w' := by
  go_enter Try.func19, Try.ntmps19
  go_wp2_with (first | (go_at_call 11; refine (apply_any _ _ _ _).mono ?_; rintro e w' ⟨rfl, rfl⟩))
  go_ret
  exact ⟨rfl, rfl⟩
theorem v_box (k x y : Int) (w : World) (hk : 16 ≤ k ∧ k ≤ 23) :
    Calls Try.prog 19 #[.int .u8 k, .pointer (some ⟨w.heap.size, 0, none⟩), .pointer (some ⟨w.heap.size + 1, 0, none⟩)] ((w.alloc (.cells #[.int .i64 x] 3)).alloc (.cells #[.int .i64 y] 3)) fun e w' => e = .returned (.int .i64 (apv k x y)) ∧ ((w.alloc (.cells #[.int .i64 x] 3)).alloc (.cells #[.int .i64 y] 3)) = w' :=
  v_any k x y _ _ _ _ (by go_simp) (by go_simp) (by unfold ape; rw [if_neg (by omega), if_pos (by omega)]) rfl
theorem v_q (k x y : Int) (w : World) (n : Nat) (hk : 16 ≤ k ∧ k ≤ 23) :
    Calls Try.prog 19 #[.int .u8 k, .pointer (some ⟨w.heap.size, 0, none⟩), .pointer (some ⟨w.heap.size + 1, 0, none⟩)] (((w.alloc (.cells #[.int .i64 x] 3)).alloc (.cells #[.int .i64 y] 3)).drewN n) fun e w' => e = .returned (.int .i64 (apv k x y)) ∧ w' = ((w.alloc (.cells #[.int .i64 x] 3)).alloc (.cells #[.int .i64 y] 3)).drewN n :=
  (v_any k x y _ _ _ _ (by go_simp) (by go_simp) (by unfold ape; rw [if_neg (by omega), if_pos (by omega)]) rfl).mono fun _ _ ⟨a, b⟩ => ⟨a, b.symm⟩
theorem grown_drewN {W w : World} (h : Grown W w) (n : Nat) : Grown W (w.drewN n) := h
theorem n_any (x v : Int) (w : World) (hv : b2i (decide (x = 0)) = v) :
    Calls Try.prog 20 #[.int .i64 x] w fun e w' => e = .returned (.int .i64 v) ∧ w = w' := by
  have h1 : unv 7 x = v := hv
  have h2 : une 7 = 0 := rfl
  clear hv
  go_enter Try.func20, Try.ntmps20
  go_wp2_with (first | (go_at_call 13; refine (unary_any _ _ _).mono ?_; rintro e w' ⟨rfl, rfl⟩))
  go_ret
  exact ⟨rfl, rfl⟩
theorem n_q (x v : Int) (w : World) (hv : b2i (decide (x = 0)) = v) :
    Calls Try.prog 20 #[.int .i64 x] w fun e w' => e = .returned (.int .i64 v) ∧ w' = w := (n_any x v w hv).mono fun _ _ ⟨a, b⟩ => ⟨a, b.symm⟩
end Go.Proofs.Ytbelacajpbmhdaa
