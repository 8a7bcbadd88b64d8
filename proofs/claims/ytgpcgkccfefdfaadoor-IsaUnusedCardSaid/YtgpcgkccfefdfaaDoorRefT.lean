/- The contract of the reference's mnemonics and of its target. -/
import Derived.Test.YtgpcgkccfefdfaaDoorRows
import Derived.WalkKit
import Derived.ProofKit
import Derived.OpenShut
import Derived.Below
import Derived.Lib.Hide
import Derived.Test.YtgpcgkccfefdfaaDoorTarg
import Derived.Outline
namespace Go.Proofs.YtgpcgkccfefdfaaDoor
open Go.ChangeShapes Go.WideShapes Go.ChangeAt Go.RowKit
set_option linter.unusedSimpArgs false
set_option linter.unusedVariables false
theorem opS_size4 (k : Int) : (opS k).size ≤ 4 := by
  have hd : ∀ n : Nat, n < 35 → (opL.getD n []).length ≤ 4 := by decide
  unfold opS
  show (opL.getD k.toNat []).toArray.size ≤ 4
  rw [List.size_toArray]
  by_cases h : k.toNat < 35
  · exact hd _ h
  · have hl : opL.length = 35 := rfl
    rw [List.getD_eq_getElem?_getD, List.getElem?_eq_none (by omega)]; simp
theorem tg0 (k : Int) (h : tg k = 0) : ∃ h : 0 < (opS k).size, (((opS k)[0]'h).toNat : Int) = 116 := by
  unfold tg at h
  split at h
  · rename_i hk
    rcases hk with rfl | rfl | rfl | rfl | rfl | rfl <;> exact ⟨by decide, rfl⟩
  · split at h <;> simp at h
theorem tg1 (k : Int) (h : tg k = 1) : ∃ (g : 0 < (opS k).size) (h : 1 < (opS k).size), ((((opS k)[0]'g).toNat : Int) == 116) = false ∧ (((opS k)[1]'h).toNat : Int) = 116 := by
  unfold tg at h
  split at h
  · simp at h
  · split at h
    · rename_i hk
      rcases hk with rfl | rfl | rfl | rfl <;> exact ⟨by decide, by decide, by decide, rfl⟩
    · simp at h
theorem tgn (k : Int) (h : tg k = -1) (h0 : 0 ≤ k) (i : Nat) (hi : i < (opS k).size) : ((((opS k)[i]'hi).toNat : Int) == 116) = false := by
  have hd : ∀ n : Nat, n < 35 → tg (n : Int) = -1 → (opL.getD n []).all (fun c => c != 116) = true := by decide +kernel
  have hall : (opL.getD k.toNat []).all (fun c => c != 116) = true := by
    by_cases hk : k.toNat < 35
    · exact hd k.toNat hk (by rw [Int.toNat_of_nonneg h0]; exact h)
    · have hl : opL.length = 35 := rfl
      rw [List.getD_eq_getElem?_getD, List.getElem?_eq_none (by omega)]; rfl
  have hm : (opS k)[i]'hi ∈ opL.getD k.toNat [] := by
    have : (opS k)[i]'hi = (opL.getD k.toNat [])[i]'(by simpa [opS, ByteArray.size] using hi) := rfl
    rw [this]; exact List.getElem_mem _
  have hne := List.all_eq_true.1 hall _ hm
  have hne2 : (opS k)[i]'hi ≠ 116 := by simpa using hne
  simp only [beq_eq_false_iff_ne, ne_eq]
  intro e
  apply hne2
  apply UInt8.toNat_inj.1
  show ((opS k)[i]'hi).toNat = 116
  omega
set_option maxHeartbeats 2000000 in
theorem refTarget_any (k : Int) (w : World) (h0 : 0 ≤ k ∧ k ≤ 255) :
    Calls Tryd.prog 24 #[.int .u8 k] w fun e w' => e = .returned (.int .i64 (tg k)) ∧ w = w' := by
  rcases tg_cases k with ht | ht | ht
  · obtain ⟨hz, hc⟩ := tg0 k ht
    rw [ht]
    generalize hS : opS k = s at hz hc
    have HS := Lib.hid hS
    clear ht hS
    go_enter Tryd.func24, Tryd.ntmps24
    go_wp2_with (go_at_call 16; refine (shape_any _ _ h0.1).mono ?_; rintro e w' ⟨rfl, rfl⟩; rw [HS.out])
    refine wp_loop_rounds 1 ?_
    rw [rounds_succ]
    go_wp2
    go_ret
    exact ⟨rfl, rfl⟩
  · obtain ⟨hz0, hz, hc, hd⟩ := tg1 k ht
    rw [ht]
    generalize hS : opS k = s at hz0 hz hc hd
    have HS := Lib.hid hS
    clear ht hS
    go_enter Tryd.func24, Tryd.ntmps24
    go_wp2_with (go_at_call 16; refine (shape_any _ _ h0.1).mono ?_; rintro e w' ⟨rfl, rfl⟩; rw [HS.out])
    refine wp_loop_rounds 2 ?_
    rw [rounds_succ]
    go_wp2
    rw [rounds_succ]
    go_wp2
    go_ret
    exact ⟨rfl, rfl⟩
  · have hn := tgn k ht h0.1
    have hs := opS_size4 k
    rw [ht]
    generalize hS : opS k = s at hn hs
    have HS := Lib.hid hS
    have HN := Lib.hid hn
    clear ht hS hn
    go_enter Tryd.func24, Tryd.ntmps24
    go_wp2_with (go_at_call 16; refine (shape_any _ _ h0.1).mono ?_; rintro e w' ⟨rfl, rfl⟩; rw [HS.out])
    go_loop [5] (fun i => ∃ j : Nat, j ≤ s.size ∧ i = .int .i64 j) (fun i => s.size - (intOf i).toNat)
    case atStart => exact ⟨0, by omega, rfl⟩
    case round =>
      obtain ⟨j, hj, rfl⟩ := hrel
      by_cases hlt : j < s.size
      · have hc := HN.out j hlt
        go_wp2
        go_round
        case rel => exact ⟨j + 1, by omega, by go_num⟩
        case measure => simp [intOf]; omega
      · go_wp2
        go_ret
        exact ⟨rfl, rfl⟩
end Go.Proofs.YtgpcgkccfefdfaaDoor
