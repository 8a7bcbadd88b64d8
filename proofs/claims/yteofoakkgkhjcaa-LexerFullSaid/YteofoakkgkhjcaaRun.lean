/- Contracts: letters, digits, spaces, runs. -/
import Derived.Test.YteofoakkgkhjcaaRows
import Derived.WalkKit
import Derived.ProofKit
import Derived.OpenShut
import Derived.Below
import Derived.Lib.Hide
import Derived.WalkSpells
import Derived.WalkLawsBesides
import Derived.Outline
import Derived.Test.YteofoakkgkhjcaaPlain
import Derived.Test.YteofoakkgkhjcaaShelf
namespace Go.Proofs.Yteofoakkgkhjcaa
open Go.ChangeShapes Go.WideShapes Go.ChangeAt Go.RowKit
set_option linter.unusedSimpArgs false
set_option linter.unusedVariables false
theorem ret_len {a b : Nat} (h : a = b) : Ending.returned (.int .i64 (a : Int)) = .returned (.int .i64 (b : Int)) := by rw [h]
theorem letter_any (c : Int) (w : World) : Calls Try.prog 27 #[.int .u8 c] w fun e w' => e = .returned (.bool (isL c)) ∧ w = w' := by
  by_cases h1 : 97 ≤ c
  all_goals by_cases h2 : c ≤ 122
  all_goals
    go_enter Try.func27, Try.ntmps27
    go_wp2
    go_ret
    exact ⟨by simp [isL, *], rfl⟩
theorem digit_any (c : Int) (w : World) : Calls Try.prog 30 #[.int .u8 c] w fun e w' => e = .returned (.bool (isD c)) ∧ w = w' := by
  by_cases h1 : 48 ≤ c
  all_goals by_cases h2 : c ≤ 57
  all_goals
    go_enter Try.func30, Try.ntmps30
    go_wp2
    go_ret
    exact ⟨by simp [isD, *], rfl⟩
theorem space_any (c : Int) (w : World) : Calls Try.prog 31 #[.int .u8 c] w fun e w' => e = .returned (.bool (isS c)) ∧ w = w' := by
  by_cases h1 : c = 32
  · subst h1; go_enter Try.func31, Try.ntmps31; go_wp2; go_ret; exact ⟨rfl, rfl⟩
  by_cases h2 : c = 9
  · subst h2; go_enter Try.func31, Try.ntmps31; go_wp2; go_ret; exact ⟨rfl, rfl⟩
  by_cases h3 : c = 13
  · subst h3; go_enter Try.func31, Try.ntmps31; go_wp2; go_ret; exact ⟨rfl, rfl⟩
  have b1 : (c == 32) = false := by simpa using h1
  have b2 : (c == 9) = false := by simpa using h2
  have b3 : (c == 13) = false := by simpa using h3
  clear h1 h2 h3
  go_enter Try.func31, Try.ntmps31; go_wp2; go_ret; exact ⟨by simp [isS, *], rfl⟩
theorem word_any (c : Int) (w : World) : Calls Try.prog 29 #[.int .u8 c] w fun e w' => e = .returned (.bool (isW c)) ∧ w = w' := by
  cases h : isL c
  all_goals
    go_enter Try.func29, Try.ntmps29
    go_wp2_with (first | (go_at_call 27; refine (letter_any _ _).mono ?_; rintro e w' ⟨rfl, rfl⟩) | (go_at_call 30; refine (digit_any _ _).mono ?_; rintro e w' ⟨rfl, rfl⟩))
    go_ret
    exact ⟨by simp [isW, h], rfl⟩
theorem comment_any (c : Int) (w : World) : Calls Try.prog 32 #[.int .u8 c] w fun e w' => e = .returned (.bool (isC c)) ∧ w = w' := by
  go_enter Try.func32, Try.ntmps32; go_wp2; go_ret; exact ⟨rfl, rfl⟩
set_option maxHeartbeats 1000000 in
theorem run_word (s : ByteArray) (w : World) (hs : s.size ≤ 65536) : Calls Try.prog 28 #[.string s, .func (.func 29) #[] #[]] w fun e w' => e = .returned (.int .i64 (runN isW s.data.toList)) ∧ w = w' := by
  go_enter Try.func28, Try.ntmps28
  go_wp2
  go_loop [5] (fun i => ∃ k : Nat, k ≤ s.size ∧ i = .int .i64 k ∧ (∀ j (h : j < s.data.toList.length), j < k → isW (s.data.toList[j].toNat : Int) = true)) (fun i => s.size - (intOf i).toNat)
  case atStart => exact ⟨0, by omega, rfl, fun j _ h => by omega⟩
  case round =>
    obtain ⟨k, hk, rfl, hp⟩ := hrel
    have HP := Lib.hid hp
    clear hp
    by_cases hlt : k < s.size
    · cases hc : isW (s[k].toNat : Int)
      · have HC := Lib.hid hc
        have hd : decide (k < s.size) = true := by simpa using hlt
        go_wp2_with (go_at_call 29; refine (word_any _ _).mono ?_; rintro e w' ⟨rfl, rfl⟩)
        go_ret
        exact ⟨ret_len (runN_eq isW _ k HP.out hk (fun _ => HC.out)).symm, rfl⟩
      · have HC := Lib.hid hc
        have hd : decide (k < s.size) = true := by simpa using hlt
        go_wp2_with (go_at_call 29; refine (word_any _ _).mono ?_; rintro e w' ⟨rfl, rfl⟩)
        go_round
        case rel => exact ⟨k + 1, by omega, by go_num, fun j h hj => by
          rcases (by omega : j < k ∨ j = k) with h1 | h1
          · exact HP.out j h h1
          · subst h1; exact HC.out⟩
        case measure => simp [intOf]; omega
    · have hd : decide (k < s.size) = false := by simpa using hlt
      go_wp2
      go_ret
      exact ⟨ret_len (runN_eq isW _ k HP.out hk (fun h => absurd h hlt)).symm, rfl⟩
set_option maxHeartbeats 1000000 in
theorem run_digit (s : ByteArray) (w : World) (hs : s.size ≤ 65536) : Calls Try.prog 28 #[.string s, .func (.func 30) #[] #[]] w fun e w' => e = .returned (.int .i64 (runN isD s.data.toList)) ∧ w = w' := by
  go_enter Try.func28, Try.ntmps28
  go_wp2
  go_loop [5] (fun i => ∃ k : Nat, k ≤ s.size ∧ i = .int .i64 k ∧ (∀ j (h : j < s.data.toList.length), j < k → isD (s.data.toList[j].toNat : Int) = true)) (fun i => s.size - (intOf i).toNat)
  case atStart => exact ⟨0, by omega, rfl, fun j _ h => by omega⟩
  case round =>
    obtain ⟨k, hk, rfl, hp⟩ := hrel
    have HP := Lib.hid hp
    clear hp
    by_cases hlt : k < s.size
    · cases hc : isD (s[k].toNat : Int)
      · have HC := Lib.hid hc
        have hd : decide (k < s.size) = true := by simpa using hlt
        go_wp2_with (go_at_call 30; refine (digit_any _ _).mono ?_; rintro e w' ⟨rfl, rfl⟩)
        go_ret
        exact ⟨ret_len (runN_eq isD _ k HP.out hk (fun _ => HC.out)).symm, rfl⟩
      · have HC := Lib.hid hc
        have hd : decide (k < s.size) = true := by simpa using hlt
        go_wp2_with (go_at_call 30; refine (digit_any _ _).mono ?_; rintro e w' ⟨rfl, rfl⟩)
        go_round
        case rel => exact ⟨k + 1, by omega, by go_num, fun j h hj => by
          rcases (by omega : j < k ∨ j = k) with h1 | h1
          · exact HP.out j h h1
          · subst h1; exact HC.out⟩
        case measure => simp [intOf]; omega
    · have hd : decide (k < s.size) = false := by simpa using hlt
      go_wp2
      go_ret
      exact ⟨ret_len (runN_eq isD _ k HP.out hk (fun h => absurd h hlt)).symm, rfl⟩
set_option maxHeartbeats 1000000 in
theorem run_space (s : ByteArray) (w : World) (hs : s.size ≤ 65536) : Calls Try.prog 28 #[.string s, .func (.func 31) #[] #[]] w fun e w' => e = .returned (.int .i64 (runN isS s.data.toList)) ∧ w = w' := by
  go_enter Try.func28, Try.ntmps28
  go_wp2
  go_loop [5] (fun i => ∃ k : Nat, k ≤ s.size ∧ i = .int .i64 k ∧ (∀ j (h : j < s.data.toList.length), j < k → isS (s.data.toList[j].toNat : Int) = true)) (fun i => s.size - (intOf i).toNat)
  case atStart => exact ⟨0, by omega, rfl, fun j _ h => by omega⟩
  case round =>
    obtain ⟨k, hk, rfl, hp⟩ := hrel
    have HP := Lib.hid hp
    clear hp
    by_cases hlt : k < s.size
    · cases hc : isS (s[k].toNat : Int)
      · have HC := Lib.hid hc
        have hd : decide (k < s.size) = true := by simpa using hlt
        go_wp2_with (go_at_call 31; refine (space_any _ _).mono ?_; rintro e w' ⟨rfl, rfl⟩)
        go_ret
        exact ⟨ret_len (runN_eq isS _ k HP.out hk (fun _ => HC.out)).symm, rfl⟩
      · have HC := Lib.hid hc
        have hd : decide (k < s.size) = true := by simpa using hlt
        go_wp2_with (go_at_call 31; refine (space_any _ _).mono ?_; rintro e w' ⟨rfl, rfl⟩)
        go_round
        case rel => exact ⟨k + 1, by omega, by go_num, fun j h hj => by
          rcases (by omega : j < k ∨ j = k) with h1 | h1
          · exact HP.out j h h1
          · subst h1; exact HC.out⟩
        case measure => simp [intOf]; omega
    · have hd : decide (k < s.size) = false := by simpa using hlt
      go_wp2
      go_ret
      exact ⟨ret_len (runN_eq isS _ k HP.out hk (fun h => absurd h hlt)).symm, rfl⟩
set_option maxHeartbeats 1000000 in
theorem run_comment (s : ByteArray) (w : World) (hs : s.size ≤ 65536) : Calls Try.prog 28 #[.string s, .func (.func 32) #[] #[]] w fun e w' => e = .returned (.int .i64 (runN isC s.data.toList)) ∧ w = w' := by
  go_enter Try.func28, Try.ntmps28
  go_wp2
  go_loop [5] (fun i => ∃ k : Nat, k ≤ s.size ∧ i = .int .i64 k ∧ (∀ j (h : j < s.data.toList.length), j < k → isC (s.data.toList[j].toNat : Int) = true)) (fun i => s.size - (intOf i).toNat)
  case atStart => exact ⟨0, by omega, rfl, fun j _ h => by omega⟩
  case round =>
    obtain ⟨k, hk, rfl, hp⟩ := hrel
    have HP := Lib.hid hp
    clear hp
    by_cases hlt : k < s.size
    · cases hc : isC (s[k].toNat : Int)
      · have HC := Lib.hid hc
        have hd : decide (k < s.size) = true := by simpa using hlt
        go_wp2_with (go_at_call 32; refine (comment_any _ _).mono ?_; rintro e w' ⟨rfl, rfl⟩)
        go_ret
        exact ⟨ret_len (runN_eq isC _ k HP.out hk (fun _ => HC.out)).symm, rfl⟩
      · have HC := Lib.hid hc
        have hd : decide (k < s.size) = true := by simpa using hlt
        go_wp2_with (go_at_call 32; refine (comment_any _ _).mono ?_; rintro e w' ⟨rfl, rfl⟩)
        go_round
        case rel => exact ⟨k + 1, by omega, by go_num, fun j h hj => by
          rcases (by omega : j < k ∨ j = k) with h1 | h1
          · exact HP.out j h h1
          · subst h1; exact HC.out⟩
        case measure => simp [intOf]; omega
    · have hd : decide (k < s.size) = false := by simpa using hlt
      go_wp2
      go_ret
      exact ⟨ret_len (runN_eq isC _ k HP.out hk (fun h => absurd h hlt)).symm, rfl⟩
end Go.Proofs.Yteofoakkgkhjcaa
