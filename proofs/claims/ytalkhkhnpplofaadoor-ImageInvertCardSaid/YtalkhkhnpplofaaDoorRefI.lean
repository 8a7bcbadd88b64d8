/- Contracts of the reference's inverse and mnemonics. -/
import Derived.Test.YtalkhkhnpplofaaDoorRows
import Derived.WalkKit
import Derived.ProofKit
import Derived.OpenShut
import Derived.Below
import Derived.Lib.Hide
import Derived.Test.YtalkhkhnpplofaaDoorTarg
import Derived.Outline
namespace Go.Proofs.YtalkhkhnpplofaaDoor
open Go.ChangeShapes Go.WideShapes Go.ChangeAt Go.RowKit
set_option linter.unusedSimpArgs false
set_option linter.unusedVariables false
def pl : List Int := [1, 2, 4, 5, 12, 13, 17, 18, 19, 20, 22, 25, 23, 26, 24, 27, 28, 29, 32, 33]
/-- none of the first j pairs holds k -/
def NoPair (k : Int) (j : Nat) : Prop := ∀ i : Nat, i < 2 * j → pl.getD i 0 ≠ k
theorem ret_u8 {a b : Int} (h : a = b) : Ending.returned (.int .u8 a) = .returned (.int .u8 b) := by rw [h]
theorem NoPair.succ {k : Int} {j : Nat} (h : NoPair k j) (h1 : pl.getD (2 * j) 0 ≠ k) (h2 : pl.getD (2 * j + 1) 0 ≠ k) : NoPair k (j + 1) := by
  intro i hi
  rcases (by omega : i < 2 * j ∨ i = 2 * j ∨ i = 2 * j + 1) with h3 | rfl | rfl
  · exact h i h3
  · exact h1
  · exact h2
theorem NoPair.all {k : Int} (h : NoPair k 10) : invO k = k := by
  apply invO_other
  have h1 := fun i hi => h i hi
  refine ⟨fun e => h1 0 (by omega) (by rw [e]; rfl), fun e => h1 1 (by omega) (by rw [e]; rfl), fun e => h1 2 (by omega) (by rw [e]; rfl), fun e => h1 3 (by omega) (by rw [e]; rfl), fun e => h1 4 (by omega) (by rw [e]; rfl), fun e => h1 5 (by omega) (by rw [e]; rfl), fun e => h1 6 (by omega) (by rw [e]; rfl), fun e => h1 7 (by omega) (by rw [e]; rfl), fun e => h1 8 (by omega) (by rw [e]; rfl), fun e => h1 9 (by omega) (by rw [e]; rfl), fun e => h1 10 (by omega) (by rw [e]; rfl), fun e => h1 12 (by omega) (by rw [e]; rfl), fun e => h1 14 (by omega) (by rw [e]; rfl), fun e => h1 11 (by omega) (by rw [e]; rfl), fun e => h1 13 (by omega) (by rw [e]; rfl), fun e => h1 15 (by omega) (by rw [e]; rfl), fun e => h1 16 (by omega) (by rw [e]; rfl), fun e => h1 17 (by omega) (by rw [e]; rfl), fun e => h1 18 (by omega) (by rw [e]; rfl), fun e => h1 19 (by omega) (by rw [e]; rfl)⟩
set_option maxHeartbeats 4000000 in
theorem refInverse_any (k : Int) (w : World) :
    Calls Tryd.prog 40 #[.int .u8 k] w fun e w' => e = .returned (.int .u8 (invO k)) ∧ Below w.heap.size w w' := by
  obtain ⟨v, hv⟩ : ∃ v, v = invO k := ⟨_, rfl⟩
  rw [← hv]
  have HV := Lib.hid hv
  clear hv
  go_enter Tryd.func40, Tryd.ntmps40
  go_wp2
  go_loop [4] (fun i => ∃ j : Nat, j ≤ 10 ∧ i = .int .i64 (2 * (j : Int)) ∧ NoPair k j) (fun i => 20 - (intOf i).toNat)
  case atStart => exact ⟨0, by omega, rfl, fun i hi => by omega⟩
  case round =>
    obtain ⟨j, hj, rfl, HP⟩ := hrel
    rcases (by omega : j = 0 ∨ j = 1 ∨ j = 2 ∨ j = 3 ∨ j = 4 ∨ j = 5 ∨ j = 6 ∨ j = 7 ∨ j = 8 ∨ j = 9 ∨ j = 10) with rfl | rfl | rfl | rfl | rfl | rfl | rfl | rfl | rfl | rfl | rfl
    · by_cases h1 : k = 1
      · have e : invO k = 2 := by rw [h1]; rfl
        have HE := Lib.hid e
        have tb : (1 == k) = true := by simpa using h1.symm
        clear e h1 HP hj
        go_wp2
        go_ret
        exact ⟨ret_u8 (by rw [HV.out, HE.out]), (Below.refl _ _).alloc (Nat.le_refl _) _⟩
      · by_cases h2 : k = 2
        · have e : invO k = 1 := by rw [h2]; rfl
          have HE := Lib.hid e
          have ta : (1 == k) = false := by simp; omega
          have tb : (2 == k) = true := by simpa using h2.symm
          clear e h1 h2 HP hj
          go_wp2
          go_ret
          exact ⟨ret_u8 (by rw [HV.out, HE.out]), (Below.refl _ _).alloc (Nat.le_refl _) _⟩
        · have ta : (1 == k) = false := by simp; omega
          have tb : (2 == k) = false := by simp; omega
          have HN := HP.succ (fun e => h1 e.symm) (fun e => h2 e.symm)
          clear HP hj h1 h2
          go_wp2
          go_round
          case rel => exact ⟨1, by omega, by go_num, HN⟩
          case measure => simp [intOf]
    · by_cases h1 : k = 4
      · have e : invO k = 5 := by rw [h1]; rfl
        have HE := Lib.hid e
        have tb : (4 == k) = true := by simpa using h1.symm
        clear e h1 HP hj
        go_wp2
        go_ret
        exact ⟨ret_u8 (by rw [HV.out, HE.out]), (Below.refl _ _).alloc (Nat.le_refl _) _⟩
      · by_cases h2 : k = 5
        · have e : invO k = 4 := by rw [h2]; rfl
          have HE := Lib.hid e
          have ta : (4 == k) = false := by simp; omega
          have tb : (5 == k) = true := by simpa using h2.symm
          clear e h1 h2 HP hj
          go_wp2
          go_ret
          exact ⟨ret_u8 (by rw [HV.out, HE.out]), (Below.refl _ _).alloc (Nat.le_refl _) _⟩
        · have ta : (4 == k) = false := by simp; omega
          have tb : (5 == k) = false := by simp; omega
          have HN := HP.succ (fun e => h1 e.symm) (fun e => h2 e.symm)
          clear HP hj h1 h2
          go_wp2
          go_round
          case rel => exact ⟨2, by omega, by go_num, HN⟩
          case measure => simp [intOf]
    · by_cases h1 : k = 12
      · have e : invO k = 13 := by rw [h1]; rfl
        have HE := Lib.hid e
        have tb : (12 == k) = true := by simpa using h1.symm
        clear e h1 HP hj
        go_wp2
        go_ret
        exact ⟨ret_u8 (by rw [HV.out, HE.out]), (Below.refl _ _).alloc (Nat.le_refl _) _⟩
      · by_cases h2 : k = 13
        · have e : invO k = 12 := by rw [h2]; rfl
          have HE := Lib.hid e
          have ta : (12 == k) = false := by simp; omega
          have tb : (13 == k) = true := by simpa using h2.symm
          clear e h1 h2 HP hj
          go_wp2
          go_ret
          exact ⟨ret_u8 (by rw [HV.out, HE.out]), (Below.refl _ _).alloc (Nat.le_refl _) _⟩
        · have ta : (12 == k) = false := by simp; omega
          have tb : (13 == k) = false := by simp; omega
          have HN := HP.succ (fun e => h1 e.symm) (fun e => h2 e.symm)
          clear HP hj h1 h2
          go_wp2
          go_round
          case rel => exact ⟨3, by omega, by go_num, HN⟩
          case measure => simp [intOf]
    · by_cases h1 : k = 17
      · have e : invO k = 18 := by rw [h1]; rfl
        have HE := Lib.hid e
        have tb : (17 == k) = true := by simpa using h1.symm
        clear e h1 HP hj
        go_wp2
        go_ret
        exact ⟨ret_u8 (by rw [HV.out, HE.out]), (Below.refl _ _).alloc (Nat.le_refl _) _⟩
      · by_cases h2 : k = 18
        · have e : invO k = 17 := by rw [h2]; rfl
          have HE := Lib.hid e
          have ta : (17 == k) = false := by simp; omega
          have tb : (18 == k) = true := by simpa using h2.symm
          clear e h1 h2 HP hj
          go_wp2
          go_ret
          exact ⟨ret_u8 (by rw [HV.out, HE.out]), (Below.refl _ _).alloc (Nat.le_refl _) _⟩
        · have ta : (17 == k) = false := by simp; omega
          have tb : (18 == k) = false := by simp; omega
          have HN := HP.succ (fun e => h1 e.symm) (fun e => h2 e.symm)
          clear HP hj h1 h2
          go_wp2
          go_round
          case rel => exact ⟨4, by omega, by go_num, HN⟩
          case measure => simp [intOf]
    · by_cases h1 : k = 19
      · have e : invO k = 20 := by rw [h1]; rfl
        have HE := Lib.hid e
        have tb : (19 == k) = true := by simpa using h1.symm
        clear e h1 HP hj
        go_wp2
        go_ret
        exact ⟨ret_u8 (by rw [HV.out, HE.out]), (Below.refl _ _).alloc (Nat.le_refl _) _⟩
      · by_cases h2 : k = 20
        · have e : invO k = 19 := by rw [h2]; rfl
          have HE := Lib.hid e
          have ta : (19 == k) = false := by simp; omega
          have tb : (20 == k) = true := by simpa using h2.symm
          clear e h1 h2 HP hj
          go_wp2
          go_ret
          exact ⟨ret_u8 (by rw [HV.out, HE.out]), (Below.refl _ _).alloc (Nat.le_refl _) _⟩
        · have ta : (19 == k) = false := by simp; omega
          have tb : (20 == k) = false := by simp; omega
          have HN := HP.succ (fun e => h1 e.symm) (fun e => h2 e.symm)
          clear HP hj h1 h2
          go_wp2
          go_round
          case rel => exact ⟨5, by omega, by go_num, HN⟩
          case measure => simp [intOf]
    · by_cases h1 : k = 22
      · have e : invO k = 25 := by rw [h1]; rfl
        have HE := Lib.hid e
        have tb : (22 == k) = true := by simpa using h1.symm
        clear e h1 HP hj
        go_wp2
        go_ret
        exact ⟨ret_u8 (by rw [HV.out, HE.out]), (Below.refl _ _).alloc (Nat.le_refl _) _⟩
      · by_cases h2 : k = 25
        · have e : invO k = 22 := by rw [h2]; rfl
          have HE := Lib.hid e
          have ta : (22 == k) = false := by simp; omega
          have tb : (25 == k) = true := by simpa using h2.symm
          clear e h1 h2 HP hj
          go_wp2
          go_ret
          exact ⟨ret_u8 (by rw [HV.out, HE.out]), (Below.refl _ _).alloc (Nat.le_refl _) _⟩
        · have ta : (22 == k) = false := by simp; omega
          have tb : (25 == k) = false := by simp; omega
          have HN := HP.succ (fun e => h1 e.symm) (fun e => h2 e.symm)
          clear HP hj h1 h2
          go_wp2
          go_round
          case rel => exact ⟨6, by omega, by go_num, HN⟩
          case measure => simp [intOf]
    · by_cases h1 : k = 23
      · have e : invO k = 26 := by rw [h1]; rfl
        have HE := Lib.hid e
        have tb : (23 == k) = true := by simpa using h1.symm
        clear e h1 HP hj
        go_wp2
        go_ret
        exact ⟨ret_u8 (by rw [HV.out, HE.out]), (Below.refl _ _).alloc (Nat.le_refl _) _⟩
      · by_cases h2 : k = 26
        · have e : invO k = 23 := by rw [h2]; rfl
          have HE := Lib.hid e
          have ta : (23 == k) = false := by simp; omega
          have tb : (26 == k) = true := by simpa using h2.symm
          clear e h1 h2 HP hj
          go_wp2
          go_ret
          exact ⟨ret_u8 (by rw [HV.out, HE.out]), (Below.refl _ _).alloc (Nat.le_refl _) _⟩
        · have ta : (23 == k) = false := by simp; omega
          have tb : (26 == k) = false := by simp; omega
          have HN := HP.succ (fun e => h1 e.symm) (fun e => h2 e.symm)
          clear HP hj h1 h2
          go_wp2
          go_round
          case rel => exact ⟨7, by omega, by go_num, HN⟩
          case measure => simp [intOf]
    · by_cases h1 : k = 24
      · have e : invO k = 27 := by rw [h1]; rfl
        have HE := Lib.hid e
        have tb : (24 == k) = true := by simpa using h1.symm
        clear e h1 HP hj
        go_wp2
        go_ret
        exact ⟨ret_u8 (by rw [HV.out, HE.out]), (Below.refl _ _).alloc (Nat.le_refl _) _⟩
      · by_cases h2 : k = 27
        · have e : invO k = 24 := by rw [h2]; rfl
          have HE := Lib.hid e
          have ta : (24 == k) = false := by simp; omega
          have tb : (27 == k) = true := by simpa using h2.symm
          clear e h1 h2 HP hj
          go_wp2
          go_ret
          exact ⟨ret_u8 (by rw [HV.out, HE.out]), (Below.refl _ _).alloc (Nat.le_refl _) _⟩
        · have ta : (24 == k) = false := by simp; omega
          have tb : (27 == k) = false := by simp; omega
          have HN := HP.succ (fun e => h1 e.symm) (fun e => h2 e.symm)
          clear HP hj h1 h2
          go_wp2
          go_round
          case rel => exact ⟨8, by omega, by go_num, HN⟩
          case measure => simp [intOf]
    · by_cases h1 : k = 28
      · have e : invO k = 29 := by rw [h1]; rfl
        have HE := Lib.hid e
        have tb : (28 == k) = true := by simpa using h1.symm
        clear e h1 HP hj
        go_wp2
        go_ret
        exact ⟨ret_u8 (by rw [HV.out, HE.out]), (Below.refl _ _).alloc (Nat.le_refl _) _⟩
      · by_cases h2 : k = 29
        · have e : invO k = 28 := by rw [h2]; rfl
          have HE := Lib.hid e
          have ta : (28 == k) = false := by simp; omega
          have tb : (29 == k) = true := by simpa using h2.symm
          clear e h1 h2 HP hj
          go_wp2
          go_ret
          exact ⟨ret_u8 (by rw [HV.out, HE.out]), (Below.refl _ _).alloc (Nat.le_refl _) _⟩
        · have ta : (28 == k) = false := by simp; omega
          have tb : (29 == k) = false := by simp; omega
          have HN := HP.succ (fun e => h1 e.symm) (fun e => h2 e.symm)
          clear HP hj h1 h2
          go_wp2
          go_round
          case rel => exact ⟨9, by omega, by go_num, HN⟩
          case measure => simp [intOf]
    · by_cases h1 : k = 32
      · have e : invO k = 33 := by rw [h1]; rfl
        have HE := Lib.hid e
        have tb : (32 == k) = true := by simpa using h1.symm
        clear e h1 HP hj
        go_wp2
        go_ret
        exact ⟨ret_u8 (by rw [HV.out, HE.out]), (Below.refl _ _).alloc (Nat.le_refl _) _⟩
      · by_cases h2 : k = 33
        · have e : invO k = 32 := by rw [h2]; rfl
          have HE := Lib.hid e
          have ta : (32 == k) = false := by simp; omega
          have tb : (33 == k) = true := by simpa using h2.symm
          clear e h1 h2 HP hj
          go_wp2
          go_ret
          exact ⟨ret_u8 (by rw [HV.out, HE.out]), (Below.refl _ _).alloc (Nat.le_refl _) _⟩
        · have ta : (32 == k) = false := by simp; omega
          have tb : (33 == k) = false := by simp; omega
          have HN := HP.succ (fun e => h1 e.symm) (fun e => h2 e.symm)
          clear HP hj h1 h2
          go_wp2
          go_round
          case rel => exact ⟨10, by omega, by go_num, HN⟩
          case measure => simp [intOf]
    · have e := HP.all
      have HE := Lib.hid e
      clear e HP hj
      go_wp2
      go_ret
      exact ⟨ret_u8 (by rw [HV.out, HE.out]), (Below.refl _ _).alloc (Nat.le_refl _) _⟩
end Go.Proofs.YtalkhkhnpplofaaDoor
