/- The contract of the function that reads the first token. -/
import Derived.Test.YteofoakkgkhjcaaRows
import Derived.WalkKit
import Derived.ProofKit
import Derived.OpenShut
import Derived.Below
import Derived.Lib.Hide
import Derived.WalkSpells
import Derived.WalkLawsBesides
import Derived.Outline
import Derived.Test.YteofoakkgkhjcaaSign
namespace Go.Proofs.Yteofoakkgkhjcaa
open Go.ChangeShapes Go.WideShapes Go.ChangeAt Go.RowKit
set_option linter.unusedSimpArgs false
set_option linter.unusedVariables false
theorem ret2 {k k' : Int} {a b : Nat} (h : k = k') (h2 : a = b) : Ending.returned (.tuple #[.int .u8 k, .int .i64 (a : Int)]) = .returned (.tuple #[.int .u8 k', .int .i64 (b : Int)]) := by rw [h, h2]
theorem fst_word {l : List UInt8} {c : UInt8} (hh : l.headD 0 = c) (b1 : isL (c.toNat : Int) = true) : fstK l = 1 ∧ fstN l = runN isW l := by
  simp only [fstK, fstN, hh, b1, if_true, and_self]
theorem fst_digit {l : List UInt8} {c : UInt8} (hh : l.headD 0 = c) (b1 : isL (c.toNat : Int) = false) (b2 : isD (c.toNat : Int) = true) : fstK l = 2 ∧ fstN l = runN isD l := by
  simp only [fstK, fstN, hh, b1, b2, if_true, and_self, Bool.false_eq_true, if_false]
theorem fst_space {l : List UInt8} {c : UInt8} (hh : l.headD 0 = c) (b1 : isL (c.toNat : Int) = false) (b2 : isD (c.toNat : Int) = false) (b3 : isS (c.toNat : Int) = true) : fstK l = 4 ∧ fstN l = runN isS l := by
  simp only [fstK, fstN, hh, b1, b2, b3, if_true, and_self, Bool.false_eq_true, if_false]
theorem fst_comment {l : List UInt8} {c : UInt8} (hh : l.headD 0 = c) (b1 : isL (c.toNat : Int) = false) (b2 : isD (c.toNat : Int) = false) (b3 : isS (c.toNat : Int) = false) (b4 : ((c.toNat : Int) == 35) = true) : fstK l = 5 ∧ fstN l = runN isC l := by
  have b5 : (c.toNat : Int) = 35 := by simpa using b4
  simp only [fstK, fstN, hh, b1, b2, b3, if_pos b5, and_self, Bool.false_eq_true, if_false]
theorem fst_sign {l : List UInt8} {c : UInt8} (hh : l.headD 0 = c) (b1 : isL (c.toNat : Int) = false) (b2 : isD (c.toNat : Int) = false) (b3 : isS (c.toNat : Int) = false) (b4 : ((c.toNat : Int) == 35) = false) : fstK l = 3 ∧ fstN l = sgn l := by
  have b5 : ¬ (c.toNat : Int) = 35 := by simpa using b4
  simp only [fstK, fstN, hh, b1, b2, b3, if_neg b5, and_self, Bool.false_eq_true, if_false]
set_option maxHeartbeats 4000000 in
theorem first_any (s : ByteArray) (w : World) (hs : s.size ≤ 65536) (h0 : 0 < s.size) : Calls Try.prog 23 #[.string s] w fun e w' => e = .returned (.tuple #[.int .u8 (fstK s.data.toList), .int .i64 (fstN s.data.toList)]) ∧ w = w' := by
  have hh := head_eq s h0
  have HH := Lib.hid hh
  generalize hK : fstK s.data.toList = kk
  generalize hN : fstN s.data.toList = nn
  have HK := Lib.hid hK
  have HN := Lib.hid hN
  clear hK hN hh
  cases b1 : isL (s[0].toNat : Int)
  · cases b2 : isD (s[0].toNat : Int)
    · cases b3 : isS (s[0].toNat : Int)
      · cases b4 : ((s[0].toNat : Int) == 35)
        · have HB := Lib.hid (fst_sign HH.out b1 b2 b3 b4)
          go_enter Try.func23, Try.ntmps23
          go_wp2_with (first | (go_at_call 27; refine (letter_any _ _).mono ?_; rintro e w' ⟨rfl, rfl⟩) | (go_at_call 30; refine (digit_any _ _).mono ?_; rintro e w' ⟨rfl, rfl⟩) | (go_at_call 31; refine (space_any _ _).mono ?_; rintro e w' ⟨rfl, rfl⟩) | (go_at_call 28; fail) | (go_at_call 33; refine (sign_any _ _ hs h0).mono ?_; rintro e w' ⟨rfl, rfl⟩))
          go_ret2
          exact ⟨ret2 (by rw [← HK.out, HB.out.1]) (by rw [← HN.out, HB.out.2]), rfl⟩
        · have HB := Lib.hid (fst_comment HH.out b1 b2 b3 b4)
          go_enter Try.func23, Try.ntmps23
          go_wp2_with (first | (go_at_call 27; refine (letter_any _ _).mono ?_; rintro e w' ⟨rfl, rfl⟩) | (go_at_call 30; refine (digit_any _ _).mono ?_; rintro e w' ⟨rfl, rfl⟩) | (go_at_call 31; refine (space_any _ _).mono ?_; rintro e w' ⟨rfl, rfl⟩) | (go_at_call 28; (refine (run_comment _ _ hs).mono ?_; rintro e w' ⟨rfl, rfl⟩)) | (go_at_call 33; refine (sign_any _ _ hs h0).mono ?_; rintro e w' ⟨rfl, rfl⟩))
          go_ret2
          exact ⟨ret2 (by rw [← HK.out, HB.out.1]) (by rw [← HN.out, HB.out.2]), rfl⟩
      · have HB := Lib.hid (fst_space HH.out b1 b2 b3)
        go_enter Try.func23, Try.ntmps23
        go_wp2_with (first | (go_at_call 27; refine (letter_any _ _).mono ?_; rintro e w' ⟨rfl, rfl⟩) | (go_at_call 30; refine (digit_any _ _).mono ?_; rintro e w' ⟨rfl, rfl⟩) | (go_at_call 31; refine (space_any _ _).mono ?_; rintro e w' ⟨rfl, rfl⟩) | (go_at_call 28; (refine (run_space _ _ hs).mono ?_; rintro e w' ⟨rfl, rfl⟩)) | (go_at_call 33; refine (sign_any _ _ hs h0).mono ?_; rintro e w' ⟨rfl, rfl⟩))
        go_ret2
        exact ⟨ret2 (by rw [← HK.out, HB.out.1]) (by rw [← HN.out, HB.out.2]), rfl⟩
    · have HB := Lib.hid (fst_digit HH.out b1 b2)
      go_enter Try.func23, Try.ntmps23
      go_wp2_with (first | (go_at_call 27; refine (letter_any _ _).mono ?_; rintro e w' ⟨rfl, rfl⟩) | (go_at_call 30; refine (digit_any _ _).mono ?_; rintro e w' ⟨rfl, rfl⟩) | (go_at_call 31; refine (space_any _ _).mono ?_; rintro e w' ⟨rfl, rfl⟩) | (go_at_call 28; (refine (run_digit _ _ hs).mono ?_; rintro e w' ⟨rfl, rfl⟩)) | (go_at_call 33; refine (sign_any _ _ hs h0).mono ?_; rintro e w' ⟨rfl, rfl⟩))
      go_ret2
      exact ⟨ret2 (by rw [← HK.out, HB.out.1]) (by rw [← HN.out, HB.out.2]), rfl⟩
  · have HB := Lib.hid (fst_word HH.out b1)
    go_enter Try.func23, Try.ntmps23
    go_wp2_with (first | (go_at_call 27; refine (letter_any _ _).mono ?_; rintro e w' ⟨rfl, rfl⟩) | (go_at_call 30; refine (digit_any _ _).mono ?_; rintro e w' ⟨rfl, rfl⟩) | (go_at_call 31; refine (space_any _ _).mono ?_; rintro e w' ⟨rfl, rfl⟩) | (go_at_call 28; (refine (run_word _ _ hs).mono ?_; rintro e w' ⟨rfl, rfl⟩)) | (go_at_call 33; refine (sign_any _ _ hs h0).mono ?_; rintro e w' ⟨rfl, rfl⟩))
    go_ret2
    exact ⟨ret2 (by rw [← HK.out, HB.out.1]) (by rw [← HN.out, HB.out.2]), rfl⟩
end Go.Proofs.Yteofoakkgkhjcaa
