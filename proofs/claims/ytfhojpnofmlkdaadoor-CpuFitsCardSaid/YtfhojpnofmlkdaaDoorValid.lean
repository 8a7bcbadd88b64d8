/- The contract of the program's test of validity. -/
import Derived.Test.YtfhojpnofmlkdaaDoorRows
import Derived.WalkKit
import Derived.ProofKit
import Derived.OpenShut
import Derived.Below
import Derived.Lib.Hide
import Derived.Test.YtfhojpnofmlkdaaDoorCls
import Derived.Outline
import Derived.WalkLawsBesides
import Derived.WalkSpells
namespace Go.Proofs.YtfhojpnofmlkdaaDoor
open Go.ChangeShapes Go.WideShapes Go.ChangeAt Go.RowKit
set_option linter.unusedSimpArgs false
set_option linter.unusedVariables false
set_option maxRecDepth 100000
/-- is x allowed as operand number j, where the letters of the operands are s? -/
def chk (s : ByteArray) (x : Int) (j : Nat) : Bool := if h : j < s.size then clsOk s[j].toNat x else x == 0
/-- the operands that must differ do -/
def dif (k a b c : Int) : Bool := if k = 1 ∨ k = 2 ∨ k = 3 ∨ k = 11 then a != b else if k = 9 then (a != b && a != c) else true
def validB (k a b c d : Int) : Bool := decide (k < 35) && (chk (opS k) a 0 && (chk (opS k) b 1 && (chk (opS k) c 2 && (chk (opS k) d 3 && dif k a b c))))
/-- the first j operands are allowed -/
def Pre (s : ByteArray) (a b c d : Int) (j : Nat) : Prop := (1 ≤ j → chk s a 0 = true) ∧ (2 ≤ j → chk s b 1 = true) ∧ (3 ≤ j → chk s c 2 = true) ∧ (4 ≤ j → chk s d 3 = true)
theorem Pre.nil (s : ByteArray) (a b c d : Int) : Pre s a b c d 0 := ⟨fun h => by omega, fun h => by omega, fun h => by omega, fun h => by omega⟩
def arg (a b c d : Int) (j : Nat) : Int := if j = 0 then a else if j = 1 then b else if j = 2 then c else d
theorem Pre.succ {s : ByteArray} {a b c d : Int} {j : Nat} (h : Pre s a b c d j) (hj : j < 4) (hc : chk s (arg a b c d j) j = true) : Pre s a b c d (j + 1) := by
  rcases (by omega : j = 0 ∨ j = 1 ∨ j = 2 ∨ j = 3) with rfl | rfl | rfl | rfl
  · exact ⟨fun _ => hc, fun h => by omega, fun h => by omega, fun h => by omega⟩
  · exact ⟨fun _ => h.1 (by omega), fun _ => hc, fun h => by omega, fun h => by omega⟩
  · exact ⟨fun _ => h.1 (by omega), fun _ => h.2.1 (by omega), fun _ => hc, fun h => by omega⟩
  · exact ⟨fun _ => h.1 (by omega), fun _ => h.2.1 (by omega), fun _ => h.2.2.1 (by omega), fun _ => hc⟩
theorem valid_bad {k a b c d : Int} {j : Nat} (hj : j < 4) (hc : chk (opS k) (arg a b c d j) j = false) : validB k a b c d = false := by
  unfold validB
  rcases (by omega : j = 0 ∨ j = 1 ∨ j = 2 ∨ j = 3) with rfl | rfl | rfl | rfl <;> simp [arg] at hc <;> simp [hc]
theorem valid_ok {k a b c d : Int} (hk : k < 35) (h : Pre (opS k) a b c d 4) : validB k a b c d = dif k a b c := by
  unfold validB
  rw [h.1 (by omega), h.2.1 (by omega), h.2.2.1 (by omega), h.2.2.2 (by omega), decide_eq_true hk]
  rfl
theorem chk_in {s : ByteArray} {x : Int} {j : Nat} (h : j < s.size) : chk s x j = clsOk s[j].toNat x := by unfold chk; rw [dif_pos h]
theorem chk_out {s : ByteArray} {x : Int} {j : Nat} (h : ¬ j < s.size) : chk s x j = (x == 0) := by unfold chk; rw [dif_neg h]
theorem opS_size (k : Int) : (opS k).size ≤ 4 := by
  have hd : ∀ n : Nat, n < 35 → (opL.getD n []).length ≤ 4 := by decide
  unfold opS
  show (opL.getD k.toNat []).toArray.size ≤ 4
  rw [List.size_toArray]
  by_cases h : k.toNat < 35
  · exact hd _ h
  · have hl : opL.length = 35 := rfl
    rw [List.getD_eq_getElem?_getD, List.getElem?_eq_none (by omega)]; simp
theorem idx (a b c d : Int) (j : Nat) (hj : j < 4) (w : World) : (Instr.index 76 (.agg #[.int .i64 a, .int .i64 b, .int .i64 c, .int .i64 d]) (.int .i64 (j : Int))).run Tryd.prog w = .ok (.int .i64 (arg a b c d j)) w := by
  rcases (by omega : j = 0 ∨ j = 1 ∨ j = 2 ∨ j = 3) with rfl | rfl | rfl | rfl <;> kernel_rfl
theorem ret_bool {a b : Bool} (h : a = b) : Ending.returned (.bool a) = .returned (.bool b) := by rw [h]
set_option maxHeartbeats 4000000 in
theorem valid_any (k a b c d : Int) (w : World) (h0 : 0 ≤ k ∧ k ≤ 255) (hL : Laid w) :
    Calls Tryd.prog 23 #[.agg #[.int .u8 k, .int .i64 a, .int .i64 b, .int .i64 c, .int .i64 d]] w fun e w' => e = .returned (.bool (validB k a b c d)) ∧ Below w.heap.size w w' := by
  by_cases hk : k < 35
  · have HL := Lib.hid (hL.alloc (.cells #[.int .u8 k, .int .i64 a, .int .i64 b, .int .i64 c, .int .i64 d] 47))
    clear hL
    have hf := field1
    have hs := opS_size k
    go_enter Tryd.func23, Tryd.ntmps23
    go_wp2_with (go_at_call 45; refine (find_any _ _ h0 HL.out).mono ?_; rintro e w1 ⟨rfl, hb⟩; have hb' := below_box (by simpa using hb); have c0 := box_keeps (by simpa using hb) 0 _ rfl; have c1 := box_keeps (by simpa using hb) 1 _ rfl; have c2 := box_keeps (by simpa using hb) 2 _ rfl; have c3 := box_keeps (by simpa using hb) 3 _ rfl; have c4 := box_keeps (by simpa using hb) 4 _ rfl; clear hb)
    clear HL
    obtain ⟨s, hS⟩ : ∃ s, s = opS k := ⟨_, rfl⟩
    have HS := Lib.hid hS
    rw [← hS] at hs ⊢
    clear hS
    go_outline
    go_loop [22] (fun i => ∃ j : Nat, j ≤ 4 ∧ i = .int .i64 j ∧ Pre s a b c d j) (fun i => 4 - (intOf i).toNat)
    case atStart => exact ⟨0, by omega, rfl, Pre.nil _ _ _ _ _⟩
    case round =>
      obtain ⟨j, hj, rfl, HP⟩ := hrel
      by_cases hlt : j < 4
      · have hi := idx a b c d j hlt
        obtain ⟨x, hx⟩ : ∃ x, x = arg a b c d j := ⟨_, rfl⟩
        rw [← hx] at hi
        have HX := Lib.hid hx
        clear hx
        by_cases hin : j < s.size
        · obtain ⟨r, hr⟩ : ∃ r, r = clsOk s[j].toNat x := ⟨_, rfl⟩
          have HR := Lib.hid hr
          cases r
          · have hr' : clsOk s[j].toNat x = false := hr.symm
            clear hr
            go_wp2_with (go_at_call 46; refine (allowed_any _ _ _).mono ?_; rintro e w' ⟨rfl, rfl⟩)
            go_ret
            exact ⟨ret_bool (valid_bad (j := j) hlt (by rw [← HX.out, ← HS.out, chk_in hin]; exact hr')).symm, hb'⟩
          · have hr' : clsOk s[j].toNat x = true := hr.symm
            clear hr
            go_wp2_with (go_at_call 46; refine (allowed_any _ _ _).mono ?_; rintro e w' ⟨rfl, rfl⟩)
            go_round
            case rel => exact ⟨j + 1, by omega, by go_num, HP.succ hlt (by rw [← HX.out, chk_in hin]; exact hr')⟩
            case measure => simp [intOf]; omega
        · by_cases hx0 : x = 0
          · go_wp2_with (go_at_call 46; refine (allowed_any _ _ _).mono ?_; rintro e w' ⟨rfl, rfl⟩)
            go_round
            case rel => exact ⟨j + 1, by omega, by go_num, HP.succ hlt (by rw [← HX.out, chk_out hin]; simpa using hx0)⟩
            case measure => simp [intOf]; omega
          · have hb0 : (x != 0) = true := by simpa using hx0
            go_wp2_with (go_at_call 46; refine (allowed_any _ _ _).mono ?_; rintro e w' ⟨rfl, rfl⟩)
            go_ret
            exact ⟨ret_bool (valid_bad (j := j) hlt (by rw [← HX.out, ← HS.out, chk_out hin]; simpa using hx0)).symm, hb'⟩
      · obtain rfl : j = 4 := by omega
        have HV := Lib.hid (valid_ok hk (HS.out ▸ HP))
        clear HP hj hlt
        by_cases h1 : k = 1
        · have hd : dif k a b c = (a != b) := by unfold dif; simp [h1]
          have HD := Lib.hid hd
          have tb : (k == 1) = true := by simpa using h1
          clear hd h1
          go_wp2
          go_ret
          exact ⟨ret_bool (by rw [HV.out, HD.out]), hb'⟩
        by_cases h2 : k = 2
        · have hd : dif k a b c = (a != b) := by unfold dif; simp [h2]
          have HD := Lib.hid hd
          have tb : (k == 2) = true := by simpa using h2
          clear hd h2
          go_wp2
          go_ret
          exact ⟨ret_bool (by rw [HV.out, HD.out]), hb'⟩
        by_cases h3 : k = 3
        · have hd : dif k a b c = (a != b) := by unfold dif; simp [h3]
          have HD := Lib.hid hd
          have tb : (k == 3) = true := by simpa using h3
          clear hd h3
          go_wp2
          go_ret
          exact ⟨ret_bool (by rw [HV.out, HD.out]), hb'⟩
        by_cases h11 : k = 11
        · have hd : dif k a b c = (a != b) := by unfold dif; simp [h11]
          have HD := Lib.hid hd
          have tb : (k == 11) = true := by simpa using h11
          clear hd h11
          go_wp2
          go_ret
          exact ⟨ret_bool (by rw [HV.out, HD.out]), hb'⟩
        by_cases h9 : k = 9
        · have hd : dif k a b c = (a != b && a != c) := by unfold dif; simp [h9]
          have HD := Lib.hid hd
          have tb : (k == 9) = true := by simpa using h9
          clear hd h9
          by_cases hab : a = b
          · have b1 : (a != b) = false := by simpa using hab
            have HA := Lib.hid b1
            clear hab
            go_wp2
            go_ret
            exact ⟨ret_bool (by rw [HV.out, HD.out, HA.out]; rfl), hb'⟩
          · have b1 : (a != b) = true := by simpa using hab
            have HA := Lib.hid b1
            clear hab
            go_wp2
            go_ret
            exact ⟨ret_bool (by rw [HV.out, HD.out, HA.out]; rfl), hb'⟩
        have hd : dif k a b c = true := by unfold dif; simp [h1, h2, h3, h11, h9]
        have HD := Lib.hid hd
        clear hd
        go_wp2
        go_ret
        exact ⟨ret_bool (by rw [HV.out, HD.out]), hb'⟩
  · have hv : validB k a b c d = false := by unfold validB; simp [hk]
    rw [hv]
    clear hv hL
    go_enter Tryd.func23, Tryd.ntmps23
    go_wp2
    go_ret
    exact ⟨rfl, (Below.refl _ _).alloc (Nat.le_refl _) _⟩
end Go.Proofs.YtfhojpnofmlkdaaDoor
