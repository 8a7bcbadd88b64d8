/- Instructions: targets, inverses, what cancels: what the program's functions give. -/
import Derived.Test.YtkfmhmkeikhdbaaDoorOps
import Derived.Test.YtkfmhmkeikhdbaaDoorTarg
import Derived.Test.YtkfmhmkeikhdbaaDoorLook
namespace Go.Proofs.YtkfmhmkeikhdbaaDoor
open Go.Proofs.YtkfmhmkeikhdbaaDoor.Pv Go.RowKit
set_option maxRecDepth 100000
set_option maxHeartbeats 4000000
set_option linter.unusedSimpArgs false
set_option linter.unusedVariables false
def g32 (l : List PV) : Option PV := match l with | [.int .u8 (.ofNat k)] => some (.agg [.str (mnS k), .str (opS k)]) | _ => none
def g57 (l : List PV) : Option PV := match l with | [.str s, .int .u8 c] => some (.int .i64 (Lib.indexByte s.data.toList c.toNat.toUInt8)) | _ => none
def tPtr (k : Nat) : PV := match Nat.ble 35 k with | true => .nilp | false => if tg k = 0 then .ptr 0 1 else if tg k = 1 then .ptr 0 2 else .nilp
def g48 (l : List PV) (hp : List Box) : Option (PV × List Box) := match l, hp with | [.ptr 0 0], [⟨5, [.int .u8 (.ofNat k), .int .i64 a, .int .i64 b, .int .i64 c, .int .i64 d], 0⟩] => some (tPtr k, [⟨5, [.int .u8 (.ofNat k), .int .i64 a, .int .i64 b, .int .i64 c, .int .i64 d], 0⟩]) | _, _ => none
def g27 (l : List PV) : Option PV := match l with | [.agg [.int .u8 (.ofNat k), .int .i64 a, .int .i64 b, .int .i64 c, .int .i64 d]] => some (.tup [.int .i64 (tv k a b), .bool (tb k)]) | _ => none
def g13 (l : List PV) : Option PV := match l with | [.agg [.int .u8 (.ofNat k), .int .i64 a, .int .i64 b, .int .i64 c, .int .i64 d]] => some (.bool (validB k a b c d)) | _ => none
def g11 (l : List PV) : Option PV := match l with | [.agg [.int .u8 k, .int .i64 a, .int .i64 b, .int .i64 c, .int .i64 d]] => some (.agg [.int .u8 (invO k), .int .i64 a, .int .i64 b, .int .i64 c, .int .i64 d]) | _ => none
def ctl (k : Int) : Bool := k == 0 || (decide (k ≥ 21) && decide (k ≤ 27)) || decide (k ≥ 30)
def g34 (l : List PV) : Option PV := match l with | [.int .u8 k] => some (.bool (ctl k)) | _ => none
def inv35 (k : Int) : Int := if k = 1 then 2 else if k = 2 then 1 else if k = 4 then 5 else if k = 5 then 4 else if k = 12 then 13 else if k = 13 then 12 else if k = 17 then 18 else if k = 18 then 17 else if k = 19 then 20 else if k = 20 then 19 else if k = 28 then 29 else if k = 29 then 28 else k
def g35 (l : List PV) : Option PV := match l with | [.int .u8 k] => some (.int .u8 (inv35 k)) | _ => none
def same (k a b c d k' a' b' c' d' : Int) : Bool := k == k' && (a == a' && (b == b' && (c == c' && d == d')))
def canR (k a b c d k' a' b' c' d' : Int) : Bool := !ctl k && same (inv35 k) a b c d k' a' b' c' d'
def canP (k a b c d k' a' b' c' d' : Int) : Bool := !tb k && (k != 34 && k != 21 && k != 0) && validB k a b c d && same k' a' b' c' d' (invO k) a b c d
def g14 (l : List PV) : Option PV := match l with | [.agg [.int .u8 k, .int .i64 a, .int .i64 b, .int .i64 c, .int .i64 d], .agg [.int .u8 k', .int .i64 a', .int .i64 b', .int .i64 c', .int .i64 d']] => some (.bool (canR k a b c d k' a' b' c' d')) | _ => none
def g12 (l : List PV) : Option PV := match l with | [.agg [.int .u8 (.ofNat k), .int .i64 a, .int .i64 b, .int .i64 c, .int .i64 d], .agg [.int .u8 k', .int .i64 a', .int .i64 b', .int .i64 c', .int .i64 d']] => some (.bool (canP k a b c d k' a' b' c' d')) | _ => none
def g10 (l : List PV) : Option PV := match l with | [] => some (.bool true) | _ => none

theorem t32x (n k : Nat) : gis Tryd.prog X (tab X.sh [] []) 32 n 40 Tryd.f32 [.int .u8 (.ofNat (k + 35))] (.s (.e) (.e)) = .ask (decide (Int.ofNat (k + 35) ≥ 35)) (.done (.agg [.str ⟨#[]⟩, .str ⟨#[]⟩])) .fail := by kernel_rfl
theorem t13x (n k : Nat) (a b c d : Int) : gis Tryd.prog X (tab X.sh [] []) 13 n 40 Tryd.f13 [(.agg [.int .u8 (.ofNat (k + 35)), .int .i64 a, .int .i64 b, .int .i64 c, .int .i64 d])] (.n 1 (.s (.e) (.e))) = .ask (decide (Int.ofNat (k + 35) ≥ 35)) (.done (.bool false)) .fail := by kernel_rfl
theorem opS_out (k : Nat) : opS ((k + 35 : Nat) : Int) = ⟨#[]⟩ := by
  have hl : opL.length = 35 := rfl
  unfold opS
  rw [Int.toNat_natCast, List.getD_eq_getElem?_getD, List.getElem?_eq_none (by omega)]; rfl
theorem mnS_out (k : Nat) : mnS ((k + 35 : Nat) : Int) = ⟨#[]⟩ := by
  have hl : mnL.length = 35 := rfl
  unfold mnS
  rw [Int.toNat_natCast, List.getD_eq_getElem?_getD, List.getElem?_eq_none (by omega)]; rfl
theorem small (k : Nat) : k < 35 ∨ ∃ m, k = m + 35 := by by_cases h : k < 35; exact .inl h; exact .inr ⟨k - 35, by omega⟩
theorem s32g (n : Nat) (hn : 41 ≤ n) : IsoS Tryd.prog X n (32, g32) := fun l r h => by
  simp only [g32] at h
  split at h
  · rename_i k
    rcases small k with hk | ⟨m, rfl⟩
    · refine s32 n hn _ _ ?_
      simp only [h32]
      rw [if_pos (show 0 ≤ Int.ofNat k ∧ Int.ofNat k < 35 by simp only [Int.ofNat_eq_natCast]; omega)]
      exact h
    · cases h
      obtain ⟨n, rfl⟩ : ∃ m, n = m + 1 := ⟨n - 1, by omega⟩
      refine gis_sound (by omega) (tab_le all_nil all_nil) fd32 (by rfl) (t32x n m) ?_
      simp only [Holds]
      refine ⟨fun _ => ?_, fun h => ?_⟩
      · rw [mnS_out, opS_out]
      · simp at h; omega
  · cases h
theorem s57 (n : Nat) : IsoS Tryd.prog X n (57, g57) := fun l r h => h
theorem t48 (n k : Nat) (a b c d : Int) : gsh Tryd.prog X (tab X.sh [(32, g32), (57, g57)] []) 48 n 40 Tryd.f48 [.ptr 0 0] [⟨5, [.int .u8 (.ofNat k), .int .i64 a, .int .i64 b, .int .i64 c, .int .i64 d], 0⟩] (.n 4 (.s (.e) (.s (.e) (.e)))) = .ask (Lib.indexByte (Array.toList (ByteArray.data (opS ↑k))) (Nat.toUInt8 116) == 0) (.done (.mk (.ptr (0) (1)) [.mk (5) [.int (IntKind.u8) (Int.ofNat k), .int (IntKind.i64) (a), .int (IntKind.i64) (b), .int (IntKind.i64) (c), .int (IntKind.i64) (d)] (0)])) (.ask (Lib.indexByte (Array.toList (ByteArray.data (opS ↑k))) (Nat.toUInt8 116) == 1) (.done (.mk (.ptr (0) (2)) [.mk (5) [.int (IntKind.u8) (Int.ofNat k), .int (IntKind.i64) (a), .int (IntKind.i64) (b), .int (IntKind.i64) (c), .int (IntKind.i64) (d)] (0)])) (.done (.mk (.nilp) [.mk (5) [.int (IntKind.u8) (Int.ofNat k), .int (IntKind.i64) (a), .int (IntKind.i64) (b), .int (IntKind.i64) (c), .int (IntKind.i64) (d)] (0)]))) := by kernel_rfl
theorem ib (k : Nat) (h : k < 35) : Lib.indexByte (Array.toList (ByteArray.data (opS k))) (Nat.toUInt8 116) = tg k := by
  rcases (by omega : k = 0 ∨ k = 1 ∨ k = 2 ∨ k = 3 ∨ k = 4 ∨ k = 5 ∨ k = 6 ∨ k = 7 ∨ k = 8 ∨ k = 9 ∨ k = 10 ∨ k = 11 ∨ k = 12 ∨ k = 13 ∨ k = 14 ∨ k = 15 ∨ k = 16 ∨ k = 17 ∨ k = 18 ∨ k = 19 ∨ k = 20 ∨ k = 21 ∨ k = 22 ∨ k = 23 ∨ k = 24 ∨ k = 25 ∨ k = 26 ∨ k = 27 ∨ k = 28 ∨ k = 29 ∨ k = 30 ∨ k = 31 ∨ k = 32 ∨ k = 33 ∨ k = 34) with rfl | rfl | rfl | rfl | rfl | rfl | rfl | rfl | rfl | rfl | rfl | rfl | rfl | rfl | rfl | rfl | rfl | rfl | rfl | rfl | rfl | rfl | rfl | rfl | rfl | rfl | rfl | rfl | rfl | rfl | rfl | rfl | rfl | rfl | rfl <;> kernel_rfl
theorem ib_out (m : Nat) : Lib.indexByte (Array.toList (ByteArray.data (opS ((m + 35 : Nat) : Int)))) (Nat.toUInt8 116) = -1 := by rw [opS_out]; kernel_rfl
theorem tg_out (m : Nat) : tg ((m + 35 : Nat) : Int) = -1 := by unfold tg; rw [if_neg (by omega), if_neg (by omega)]
theorem tPtr_in (k : Nat) (h : k < 35) : tPtr k = if tg k = 0 then .ptr 0 1 else if tg k = 1 then .ptr 0 2 else .nilp := by
  unfold tPtr
  have : Nat.ble 35 k = false := by rw [← Bool.not_eq_true, Nat.ble_eq]; omega
  rw [this]
theorem tPtr_out (m : Nat) : tPtr (m + 35) = .nilp := by
  unfold tPtr
  have : Nat.ble 35 (m + 35) = true := by rw [Nat.ble_eq]; omega
  rw [this]
theorem s48 (n : Nat) (hn : 43 ≤ n) : ShrS Tryd.prog X n (48, g48) := fun l hp r h => by
  simp only [g48] at h
  split at h
  · rename_i k a b c d
    cases h
    obtain ⟨n, rfl⟩ : ∃ m, n = m + 1 := ⟨n - 1, by omega⟩
    refine gsh_sound (by omega) (tab_le (all_cons (s32g n (by omega)) (all_cons (s57 n) all_nil)) all_nil) fd48 (t48 n k a b c d) ?_
    simp only [Holds]
    rcases small k with hk | ⟨m, rfl⟩
    · rw [ib k hk, tPtr_in k hk]
      refine ⟨fun h => ?_, fun h => ⟨fun h2 => ?_, fun h2 => ?_⟩⟩
      · rw [if_pos (by simpa using h)]
      · rw [if_neg (by simpa using h), if_pos (by simpa using h2)]
      · rw [if_neg (by simpa using h), if_neg (by simpa using h2)]
    · rw [ib_out, tPtr_out]
      exact ⟨fun h => absurd h (by decide), fun _ => ⟨fun h => absurd h (by decide), fun _ => rfl⟩⟩
  · cases h
theorem t27_0 (n : Nat) (a b c d : Int) : gis Tryd.prog X (tab X.sh [] [(48, g48)]) 27 n 40 Tryd.f27 [(.agg [.int .u8 (.ofNat 0), .int .i64 a, .int .i64 b, .int .i64 c, .int .i64 d])] (.n 2 (.e)) = .done (.tup [.int (IntKind.i64) (0), .bool (false)]) := by kernel_rfl
theorem s27_0 (n : Nat) (hn : 44 ≤ n) (a b c d : Int) : iso Tryd.prog X (n + 1) 27 [(.agg [.int .u8 (.ofNat 0), .int .i64 a, .int .i64 b, .int .i64 c, .int .i64 d])] = some (.tup [.int .i64 (tv 0 a b), .bool (tb 0)]) := gis_sound (by omega) (tab_le all_nil (all_cons (s48 n (by omega)) all_nil)) fd27 (by rfl) (t27_0 n a b c d) (by simp only [Holds]; rfl)
theorem t27_1 (n : Nat) (a b c d : Int) : gis Tryd.prog X (tab X.sh [] [(48, g48)]) 27 n 40 Tryd.f27 [(.agg [.int .u8 (.ofNat 1), .int .i64 a, .int .i64 b, .int .i64 c, .int .i64 d])] (.n 2 (.e)) = .done (.tup [.int (IntKind.i64) (0), .bool (false)]) := by kernel_rfl
theorem s27_1 (n : Nat) (hn : 44 ≤ n) (a b c d : Int) : iso Tryd.prog X (n + 1) 27 [(.agg [.int .u8 (.ofNat 1), .int .i64 a, .int .i64 b, .int .i64 c, .int .i64 d])] = some (.tup [.int .i64 (tv 1 a b), .bool (tb 1)]) := gis_sound (by omega) (tab_le all_nil (all_cons (s48 n (by omega)) all_nil)) fd27 (by rfl) (t27_1 n a b c d) (by simp only [Holds]; rfl)
theorem t27_2 (n : Nat) (a b c d : Int) : gis Tryd.prog X (tab X.sh [] [(48, g48)]) 27 n 40 Tryd.f27 [(.agg [.int .u8 (.ofNat 2), .int .i64 a, .int .i64 b, .int .i64 c, .int .i64 d])] (.n 2 (.e)) = .done (.tup [.int (IntKind.i64) (0), .bool (false)]) := by kernel_rfl
theorem s27_2 (n : Nat) (hn : 44 ≤ n) (a b c d : Int) : iso Tryd.prog X (n + 1) 27 [(.agg [.int .u8 (.ofNat 2), .int .i64 a, .int .i64 b, .int .i64 c, .int .i64 d])] = some (.tup [.int .i64 (tv 2 a b), .bool (tb 2)]) := gis_sound (by omega) (tab_le all_nil (all_cons (s48 n (by omega)) all_nil)) fd27 (by rfl) (t27_2 n a b c d) (by simp only [Holds]; rfl)
theorem t27_3 (n : Nat) (a b c d : Int) : gis Tryd.prog X (tab X.sh [] [(48, g48)]) 27 n 40 Tryd.f27 [(.agg [.int .u8 (.ofNat 3), .int .i64 a, .int .i64 b, .int .i64 c, .int .i64 d])] (.n 2 (.e)) = .done (.tup [.int (IntKind.i64) (0), .bool (false)]) := by kernel_rfl
theorem s27_3 (n : Nat) (hn : 44 ≤ n) (a b c d : Int) : iso Tryd.prog X (n + 1) 27 [(.agg [.int .u8 (.ofNat 3), .int .i64 a, .int .i64 b, .int .i64 c, .int .i64 d])] = some (.tup [.int .i64 (tv 3 a b), .bool (tb 3)]) := gis_sound (by omega) (tab_le all_nil (all_cons (s48 n (by omega)) all_nil)) fd27 (by rfl) (t27_3 n a b c d) (by simp only [Holds]; rfl)
theorem t27_4 (n : Nat) (a b c d : Int) : gis Tryd.prog X (tab X.sh [] [(48, g48)]) 27 n 40 Tryd.f27 [(.agg [.int .u8 (.ofNat 4), .int .i64 a, .int .i64 b, .int .i64 c, .int .i64 d])] (.n 2 (.e)) = .done (.tup [.int (IntKind.i64) (0), .bool (false)]) := by kernel_rfl
theorem s27_4 (n : Nat) (hn : 44 ≤ n) (a b c d : Int) : iso Tryd.prog X (n + 1) 27 [(.agg [.int .u8 (.ofNat 4), .int .i64 a, .int .i64 b, .int .i64 c, .int .i64 d])] = some (.tup [.int .i64 (tv 4 a b), .bool (tb 4)]) := gis_sound (by omega) (tab_le all_nil (all_cons (s48 n (by omega)) all_nil)) fd27 (by rfl) (t27_4 n a b c d) (by simp only [Holds]; rfl)
theorem t27_5 (n : Nat) (a b c d : Int) : gis Tryd.prog X (tab X.sh [] [(48, g48)]) 27 n 40 Tryd.f27 [(.agg [.int .u8 (.ofNat 5), .int .i64 a, .int .i64 b, .int .i64 c, .int .i64 d])] (.n 2 (.e)) = .done (.tup [.int (IntKind.i64) (0), .bool (false)]) := by kernel_rfl
theorem s27_5 (n : Nat) (hn : 44 ≤ n) (a b c d : Int) : iso Tryd.prog X (n + 1) 27 [(.agg [.int .u8 (.ofNat 5), .int .i64 a, .int .i64 b, .int .i64 c, .int .i64 d])] = some (.tup [.int .i64 (tv 5 a b), .bool (tb 5)]) := gis_sound (by omega) (tab_le all_nil (all_cons (s48 n (by omega)) all_nil)) fd27 (by rfl) (t27_5 n a b c d) (by simp only [Holds]; rfl)
theorem t27_6 (n : Nat) (a b c d : Int) : gis Tryd.prog X (tab X.sh [] [(48, g48)]) 27 n 40 Tryd.f27 [(.agg [.int .u8 (.ofNat 6), .int .i64 a, .int .i64 b, .int .i64 c, .int .i64 d])] (.n 2 (.e)) = .done (.tup [.int (IntKind.i64) (0), .bool (false)]) := by kernel_rfl
theorem s27_6 (n : Nat) (hn : 44 ≤ n) (a b c d : Int) : iso Tryd.prog X (n + 1) 27 [(.agg [.int .u8 (.ofNat 6), .int .i64 a, .int .i64 b, .int .i64 c, .int .i64 d])] = some (.tup [.int .i64 (tv 6 a b), .bool (tb 6)]) := gis_sound (by omega) (tab_le all_nil (all_cons (s48 n (by omega)) all_nil)) fd27 (by rfl) (t27_6 n a b c d) (by simp only [Holds]; rfl)
theorem t27_7 (n : Nat) (a b c d : Int) : gis Tryd.prog X (tab X.sh [] [(48, g48)]) 27 n 40 Tryd.f27 [(.agg [.int .u8 (.ofNat 7), .int .i64 a, .int .i64 b, .int .i64 c, .int .i64 d])] (.n 2 (.e)) = .done (.tup [.int (IntKind.i64) (0), .bool (false)]) := by kernel_rfl
theorem s27_7 (n : Nat) (hn : 44 ≤ n) (a b c d : Int) : iso Tryd.prog X (n + 1) 27 [(.agg [.int .u8 (.ofNat 7), .int .i64 a, .int .i64 b, .int .i64 c, .int .i64 d])] = some (.tup [.int .i64 (tv 7 a b), .bool (tb 7)]) := gis_sound (by omega) (tab_le all_nil (all_cons (s48 n (by omega)) all_nil)) fd27 (by rfl) (t27_7 n a b c d) (by simp only [Holds]; rfl)
theorem t27_8 (n : Nat) (a b c d : Int) : gis Tryd.prog X (tab X.sh [] [(48, g48)]) 27 n 40 Tryd.f27 [(.agg [.int .u8 (.ofNat 8), .int .i64 a, .int .i64 b, .int .i64 c, .int .i64 d])] (.n 2 (.e)) = .done (.tup [.int (IntKind.i64) (0), .bool (false)]) := by kernel_rfl
theorem s27_8 (n : Nat) (hn : 44 ≤ n) (a b c d : Int) : iso Tryd.prog X (n + 1) 27 [(.agg [.int .u8 (.ofNat 8), .int .i64 a, .int .i64 b, .int .i64 c, .int .i64 d])] = some (.tup [.int .i64 (tv 8 a b), .bool (tb 8)]) := gis_sound (by omega) (tab_le all_nil (all_cons (s48 n (by omega)) all_nil)) fd27 (by rfl) (t27_8 n a b c d) (by simp only [Holds]; rfl)
theorem t27_9 (n : Nat) (a b c d : Int) : gis Tryd.prog X (tab X.sh [] [(48, g48)]) 27 n 40 Tryd.f27 [(.agg [.int .u8 (.ofNat 9), .int .i64 a, .int .i64 b, .int .i64 c, .int .i64 d])] (.n 2 (.e)) = .done (.tup [.int (IntKind.i64) (0), .bool (false)]) := by kernel_rfl
theorem s27_9 (n : Nat) (hn : 44 ≤ n) (a b c d : Int) : iso Tryd.prog X (n + 1) 27 [(.agg [.int .u8 (.ofNat 9), .int .i64 a, .int .i64 b, .int .i64 c, .int .i64 d])] = some (.tup [.int .i64 (tv 9 a b), .bool (tb 9)]) := gis_sound (by omega) (tab_le all_nil (all_cons (s48 n (by omega)) all_nil)) fd27 (by rfl) (t27_9 n a b c d) (by simp only [Holds]; rfl)
theorem t27_10 (n : Nat) (a b c d : Int) : gis Tryd.prog X (tab X.sh [] [(48, g48)]) 27 n 40 Tryd.f27 [(.agg [.int .u8 (.ofNat 10), .int .i64 a, .int .i64 b, .int .i64 c, .int .i64 d])] (.n 2 (.e)) = .done (.tup [.int (IntKind.i64) (0), .bool (false)]) := by kernel_rfl
theorem s27_10 (n : Nat) (hn : 44 ≤ n) (a b c d : Int) : iso Tryd.prog X (n + 1) 27 [(.agg [.int .u8 (.ofNat 10), .int .i64 a, .int .i64 b, .int .i64 c, .int .i64 d])] = some (.tup [.int .i64 (tv 10 a b), .bool (tb 10)]) := gis_sound (by omega) (tab_le all_nil (all_cons (s48 n (by omega)) all_nil)) fd27 (by rfl) (t27_10 n a b c d) (by simp only [Holds]; rfl)
theorem t27_11 (n : Nat) (a b c d : Int) : gis Tryd.prog X (tab X.sh [] [(48, g48)]) 27 n 40 Tryd.f27 [(.agg [.int .u8 (.ofNat 11), .int .i64 a, .int .i64 b, .int .i64 c, .int .i64 d])] (.n 2 (.e)) = .done (.tup [.int (IntKind.i64) (0), .bool (false)]) := by kernel_rfl
theorem s27_11 (n : Nat) (hn : 44 ≤ n) (a b c d : Int) : iso Tryd.prog X (n + 1) 27 [(.agg [.int .u8 (.ofNat 11), .int .i64 a, .int .i64 b, .int .i64 c, .int .i64 d])] = some (.tup [.int .i64 (tv 11 a b), .bool (tb 11)]) := gis_sound (by omega) (tab_le all_nil (all_cons (s48 n (by omega)) all_nil)) fd27 (by rfl) (t27_11 n a b c d) (by simp only [Holds]; rfl)
theorem t27_12 (n : Nat) (a b c d : Int) : gis Tryd.prog X (tab X.sh [] [(48, g48)]) 27 n 40 Tryd.f27 [(.agg [.int .u8 (.ofNat 12), .int .i64 a, .int .i64 b, .int .i64 c, .int .i64 d])] (.n 2 (.e)) = .done (.tup [.int (IntKind.i64) (0), .bool (false)]) := by kernel_rfl
theorem s27_12 (n : Nat) (hn : 44 ≤ n) (a b c d : Int) : iso Tryd.prog X (n + 1) 27 [(.agg [.int .u8 (.ofNat 12), .int .i64 a, .int .i64 b, .int .i64 c, .int .i64 d])] = some (.tup [.int .i64 (tv 12 a b), .bool (tb 12)]) := gis_sound (by omega) (tab_le all_nil (all_cons (s48 n (by omega)) all_nil)) fd27 (by rfl) (t27_12 n a b c d) (by simp only [Holds]; rfl)
theorem t27_13 (n : Nat) (a b c d : Int) : gis Tryd.prog X (tab X.sh [] [(48, g48)]) 27 n 40 Tryd.f27 [(.agg [.int .u8 (.ofNat 13), .int .i64 a, .int .i64 b, .int .i64 c, .int .i64 d])] (.n 2 (.e)) = .done (.tup [.int (IntKind.i64) (0), .bool (false)]) := by kernel_rfl
theorem s27_13 (n : Nat) (hn : 44 ≤ n) (a b c d : Int) : iso Tryd.prog X (n + 1) 27 [(.agg [.int .u8 (.ofNat 13), .int .i64 a, .int .i64 b, .int .i64 c, .int .i64 d])] = some (.tup [.int .i64 (tv 13 a b), .bool (tb 13)]) := gis_sound (by omega) (tab_le all_nil (all_cons (s48 n (by omega)) all_nil)) fd27 (by rfl) (t27_13 n a b c d) (by simp only [Holds]; rfl)
theorem t27_14 (n : Nat) (a b c d : Int) : gis Tryd.prog X (tab X.sh [] [(48, g48)]) 27 n 40 Tryd.f27 [(.agg [.int .u8 (.ofNat 14), .int .i64 a, .int .i64 b, .int .i64 c, .int .i64 d])] (.n 2 (.e)) = .done (.tup [.int (IntKind.i64) (0), .bool (false)]) := by kernel_rfl
theorem s27_14 (n : Nat) (hn : 44 ≤ n) (a b c d : Int) : iso Tryd.prog X (n + 1) 27 [(.agg [.int .u8 (.ofNat 14), .int .i64 a, .int .i64 b, .int .i64 c, .int .i64 d])] = some (.tup [.int .i64 (tv 14 a b), .bool (tb 14)]) := gis_sound (by omega) (tab_le all_nil (all_cons (s48 n (by omega)) all_nil)) fd27 (by rfl) (t27_14 n a b c d) (by simp only [Holds]; rfl)
theorem t27_15 (n : Nat) (a b c d : Int) : gis Tryd.prog X (tab X.sh [] [(48, g48)]) 27 n 40 Tryd.f27 [(.agg [.int .u8 (.ofNat 15), .int .i64 a, .int .i64 b, .int .i64 c, .int .i64 d])] (.n 2 (.e)) = .done (.tup [.int (IntKind.i64) (0), .bool (false)]) := by kernel_rfl
theorem s27_15 (n : Nat) (hn : 44 ≤ n) (a b c d : Int) : iso Tryd.prog X (n + 1) 27 [(.agg [.int .u8 (.ofNat 15), .int .i64 a, .int .i64 b, .int .i64 c, .int .i64 d])] = some (.tup [.int .i64 (tv 15 a b), .bool (tb 15)]) := gis_sound (by omega) (tab_le all_nil (all_cons (s48 n (by omega)) all_nil)) fd27 (by rfl) (t27_15 n a b c d) (by simp only [Holds]; rfl)
theorem t27_16 (n : Nat) (a b c d : Int) : gis Tryd.prog X (tab X.sh [] [(48, g48)]) 27 n 40 Tryd.f27 [(.agg [.int .u8 (.ofNat 16), .int .i64 a, .int .i64 b, .int .i64 c, .int .i64 d])] (.n 2 (.e)) = .done (.tup [.int (IntKind.i64) (0), .bool (false)]) := by kernel_rfl
theorem s27_16 (n : Nat) (hn : 44 ≤ n) (a b c d : Int) : iso Tryd.prog X (n + 1) 27 [(.agg [.int .u8 (.ofNat 16), .int .i64 a, .int .i64 b, .int .i64 c, .int .i64 d])] = some (.tup [.int .i64 (tv 16 a b), .bool (tb 16)]) := gis_sound (by omega) (tab_le all_nil (all_cons (s48 n (by omega)) all_nil)) fd27 (by rfl) (t27_16 n a b c d) (by simp only [Holds]; rfl)
theorem t27_17 (n : Nat) (a b c d : Int) : gis Tryd.prog X (tab X.sh [] [(48, g48)]) 27 n 40 Tryd.f27 [(.agg [.int .u8 (.ofNat 17), .int .i64 a, .int .i64 b, .int .i64 c, .int .i64 d])] (.n 2 (.e)) = .done (.tup [.int (IntKind.i64) (0), .bool (false)]) := by kernel_rfl
theorem s27_17 (n : Nat) (hn : 44 ≤ n) (a b c d : Int) : iso Tryd.prog X (n + 1) 27 [(.agg [.int .u8 (.ofNat 17), .int .i64 a, .int .i64 b, .int .i64 c, .int .i64 d])] = some (.tup [.int .i64 (tv 17 a b), .bool (tb 17)]) := gis_sound (by omega) (tab_le all_nil (all_cons (s48 n (by omega)) all_nil)) fd27 (by rfl) (t27_17 n a b c d) (by simp only [Holds]; rfl)
theorem t27_18 (n : Nat) (a b c d : Int) : gis Tryd.prog X (tab X.sh [] [(48, g48)]) 27 n 40 Tryd.f27 [(.agg [.int .u8 (.ofNat 18), .int .i64 a, .int .i64 b, .int .i64 c, .int .i64 d])] (.n 2 (.e)) = .done (.tup [.int (IntKind.i64) (0), .bool (false)]) := by kernel_rfl
theorem s27_18 (n : Nat) (hn : 44 ≤ n) (a b c d : Int) : iso Tryd.prog X (n + 1) 27 [(.agg [.int .u8 (.ofNat 18), .int .i64 a, .int .i64 b, .int .i64 c, .int .i64 d])] = some (.tup [.int .i64 (tv 18 a b), .bool (tb 18)]) := gis_sound (by omega) (tab_le all_nil (all_cons (s48 n (by omega)) all_nil)) fd27 (by rfl) (t27_18 n a b c d) (by simp only [Holds]; rfl)
theorem t27_19 (n : Nat) (a b c d : Int) : gis Tryd.prog X (tab X.sh [] [(48, g48)]) 27 n 40 Tryd.f27 [(.agg [.int .u8 (.ofNat 19), .int .i64 a, .int .i64 b, .int .i64 c, .int .i64 d])] (.n 2 (.e)) = .done (.tup [.int (IntKind.i64) (0), .bool (false)]) := by kernel_rfl
theorem s27_19 (n : Nat) (hn : 44 ≤ n) (a b c d : Int) : iso Tryd.prog X (n + 1) 27 [(.agg [.int .u8 (.ofNat 19), .int .i64 a, .int .i64 b, .int .i64 c, .int .i64 d])] = some (.tup [.int .i64 (tv 19 a b), .bool (tb 19)]) := gis_sound (by omega) (tab_le all_nil (all_cons (s48 n (by omega)) all_nil)) fd27 (by rfl) (t27_19 n a b c d) (by simp only [Holds]; rfl)
theorem t27_20 (n : Nat) (a b c d : Int) : gis Tryd.prog X (tab X.sh [] [(48, g48)]) 27 n 40 Tryd.f27 [(.agg [.int .u8 (.ofNat 20), .int .i64 a, .int .i64 b, .int .i64 c, .int .i64 d])] (.n 2 (.e)) = .done (.tup [.int (IntKind.i64) (0), .bool (false)]) := by kernel_rfl
theorem s27_20 (n : Nat) (hn : 44 ≤ n) (a b c d : Int) : iso Tryd.prog X (n + 1) 27 [(.agg [.int .u8 (.ofNat 20), .int .i64 a, .int .i64 b, .int .i64 c, .int .i64 d])] = some (.tup [.int .i64 (tv 20 a b), .bool (tb 20)]) := gis_sound (by omega) (tab_le all_nil (all_cons (s48 n (by omega)) all_nil)) fd27 (by rfl) (t27_20 n a b c d) (by simp only [Holds]; rfl)
theorem t27_21 (n : Nat) (a b c d : Int) : gis Tryd.prog X (tab X.sh [] [(48, g48)]) 27 n 40 Tryd.f27 [(.agg [.int .u8 (.ofNat 21), .int .i64 a, .int .i64 b, .int .i64 c, .int .i64 d])] (.n 2 (.e)) = .done (.tup [.int (IntKind.i64) (0), .bool (false)]) := by kernel_rfl
theorem s27_21 (n : Nat) (hn : 44 ≤ n) (a b c d : Int) : iso Tryd.prog X (n + 1) 27 [(.agg [.int .u8 (.ofNat 21), .int .i64 a, .int .i64 b, .int .i64 c, .int .i64 d])] = some (.tup [.int .i64 (tv 21 a b), .bool (tb 21)]) := gis_sound (by omega) (tab_le all_nil (all_cons (s48 n (by omega)) all_nil)) fd27 (by rfl) (t27_21 n a b c d) (by simp only [Holds]; rfl)
theorem t27_22 (n : Nat) (a b c d : Int) : gis Tryd.prog X (tab X.sh [] [(48, g48)]) 27 n 40 Tryd.f27 [(.agg [.int .u8 (.ofNat 22), .int .i64 a, .int .i64 b, .int .i64 c, .int .i64 d])] (.n 3 (.e)) = .done (.tup [.int (IntKind.i64) (a), .bool (true)]) := by kernel_rfl
theorem s27_22 (n : Nat) (hn : 44 ≤ n) (a b c d : Int) : iso Tryd.prog X (n + 1) 27 [(.agg [.int .u8 (.ofNat 22), .int .i64 a, .int .i64 b, .int .i64 c, .int .i64 d])] = some (.tup [.int .i64 (tv 22 a b), .bool (tb 22)]) := gis_sound (by omega) (tab_le all_nil (all_cons (s48 n (by omega)) all_nil)) fd27 (by rfl) (t27_22 n a b c d) (by simp only [Holds]; rfl)
theorem t27_23 (n : Nat) (a b c d : Int) : gis Tryd.prog X (tab X.sh [] [(48, g48)]) 27 n 40 Tryd.f27 [(.agg [.int .u8 (.ofNat 23), .int .i64 a, .int .i64 b, .int .i64 c, .int .i64 d])] (.n 3 (.e)) = .done (.tup [.int (IntKind.i64) (b), .bool (true)]) := by kernel_rfl
theorem s27_23 (n : Nat) (hn : 44 ≤ n) (a b c d : Int) : iso Tryd.prog X (n + 1) 27 [(.agg [.int .u8 (.ofNat 23), .int .i64 a, .int .i64 b, .int .i64 c, .int .i64 d])] = some (.tup [.int .i64 (tv 23 a b), .bool (tb 23)]) := gis_sound (by omega) (tab_le all_nil (all_cons (s48 n (by omega)) all_nil)) fd27 (by rfl) (t27_23 n a b c d) (by simp only [Holds]; rfl)
theorem t27_24 (n : Nat) (a b c d : Int) : gis Tryd.prog X (tab X.sh [] [(48, g48)]) 27 n 40 Tryd.f27 [(.agg [.int .u8 (.ofNat 24), .int .i64 a, .int .i64 b, .int .i64 c, .int .i64 d])] (.n 3 (.e)) = .done (.tup [.int (IntKind.i64) (b), .bool (true)]) := by kernel_rfl
theorem s27_24 (n : Nat) (hn : 44 ≤ n) (a b c d : Int) : iso Tryd.prog X (n + 1) 27 [(.agg [.int .u8 (.ofNat 24), .int .i64 a, .int .i64 b, .int .i64 c, .int .i64 d])] = some (.tup [.int .i64 (tv 24 a b), .bool (tb 24)]) := gis_sound (by omega) (tab_le all_nil (all_cons (s48 n (by omega)) all_nil)) fd27 (by rfl) (t27_24 n a b c d) (by simp only [Holds]; rfl)
theorem t27_25 (n : Nat) (a b c d : Int) : gis Tryd.prog X (tab X.sh [] [(48, g48)]) 27 n 40 Tryd.f27 [(.agg [.int .u8 (.ofNat 25), .int .i64 a, .int .i64 b, .int .i64 c, .int .i64 d])] (.n 3 (.e)) = .done (.tup [.int (IntKind.i64) (a), .bool (true)]) := by kernel_rfl
theorem s27_25 (n : Nat) (hn : 44 ≤ n) (a b c d : Int) : iso Tryd.prog X (n + 1) 27 [(.agg [.int .u8 (.ofNat 25), .int .i64 a, .int .i64 b, .int .i64 c, .int .i64 d])] = some (.tup [.int .i64 (tv 25 a b), .bool (tb 25)]) := gis_sound (by omega) (tab_le all_nil (all_cons (s48 n (by omega)) all_nil)) fd27 (by rfl) (t27_25 n a b c d) (by simp only [Holds]; rfl)
theorem t27_26 (n : Nat) (a b c d : Int) : gis Tryd.prog X (tab X.sh [] [(48, g48)]) 27 n 40 Tryd.f27 [(.agg [.int .u8 (.ofNat 26), .int .i64 a, .int .i64 b, .int .i64 c, .int .i64 d])] (.n 3 (.e)) = .done (.tup [.int (IntKind.i64) (b), .bool (true)]) := by kernel_rfl
theorem s27_26 (n : Nat) (hn : 44 ≤ n) (a b c d : Int) : iso Tryd.prog X (n + 1) 27 [(.agg [.int .u8 (.ofNat 26), .int .i64 a, .int .i64 b, .int .i64 c, .int .i64 d])] = some (.tup [.int .i64 (tv 26 a b), .bool (tb 26)]) := gis_sound (by omega) (tab_le all_nil (all_cons (s48 n (by omega)) all_nil)) fd27 (by rfl) (t27_26 n a b c d) (by simp only [Holds]; rfl)
theorem t27_27 (n : Nat) (a b c d : Int) : gis Tryd.prog X (tab X.sh [] [(48, g48)]) 27 n 40 Tryd.f27 [(.agg [.int .u8 (.ofNat 27), .int .i64 a, .int .i64 b, .int .i64 c, .int .i64 d])] (.n 3 (.e)) = .done (.tup [.int (IntKind.i64) (b), .bool (true)]) := by kernel_rfl
theorem s27_27 (n : Nat) (hn : 44 ≤ n) (a b c d : Int) : iso Tryd.prog X (n + 1) 27 [(.agg [.int .u8 (.ofNat 27), .int .i64 a, .int .i64 b, .int .i64 c, .int .i64 d])] = some (.tup [.int .i64 (tv 27 a b), .bool (tb 27)]) := gis_sound (by omega) (tab_le all_nil (all_cons (s48 n (by omega)) all_nil)) fd27 (by rfl) (t27_27 n a b c d) (by simp only [Holds]; rfl)
theorem t27_28 (n : Nat) (a b c d : Int) : gis Tryd.prog X (tab X.sh [] [(48, g48)]) 27 n 40 Tryd.f27 [(.agg [.int .u8 (.ofNat 28), .int .i64 a, .int .i64 b, .int .i64 c, .int .i64 d])] (.n 2 (.e)) = .done (.tup [.int (IntKind.i64) (0), .bool (false)]) := by kernel_rfl
theorem s27_28 (n : Nat) (hn : 44 ≤ n) (a b c d : Int) : iso Tryd.prog X (n + 1) 27 [(.agg [.int .u8 (.ofNat 28), .int .i64 a, .int .i64 b, .int .i64 c, .int .i64 d])] = some (.tup [.int .i64 (tv 28 a b), .bool (tb 28)]) := gis_sound (by omega) (tab_le all_nil (all_cons (s48 n (by omega)) all_nil)) fd27 (by rfl) (t27_28 n a b c d) (by simp only [Holds]; rfl)
theorem t27_29 (n : Nat) (a b c d : Int) : gis Tryd.prog X (tab X.sh [] [(48, g48)]) 27 n 40 Tryd.f27 [(.agg [.int .u8 (.ofNat 29), .int .i64 a, .int .i64 b, .int .i64 c, .int .i64 d])] (.n 2 (.e)) = .done (.tup [.int (IntKind.i64) (0), .bool (false)]) := by kernel_rfl
theorem s27_29 (n : Nat) (hn : 44 ≤ n) (a b c d : Int) : iso Tryd.prog X (n + 1) 27 [(.agg [.int .u8 (.ofNat 29), .int .i64 a, .int .i64 b, .int .i64 c, .int .i64 d])] = some (.tup [.int .i64 (tv 29 a b), .bool (tb 29)]) := gis_sound (by omega) (tab_le all_nil (all_cons (s48 n (by omega)) all_nil)) fd27 (by rfl) (t27_29 n a b c d) (by simp only [Holds]; rfl)
theorem t27_30 (n : Nat) (a b c d : Int) : gis Tryd.prog X (tab X.sh [] [(48, g48)]) 27 n 40 Tryd.f27 [(.agg [.int .u8 (.ofNat 30), .int .i64 a, .int .i64 b, .int .i64 c, .int .i64 d])] (.n 3 (.e)) = .done (.tup [.int (IntKind.i64) (a), .bool (true)]) := by kernel_rfl
theorem s27_30 (n : Nat) (hn : 44 ≤ n) (a b c d : Int) : iso Tryd.prog X (n + 1) 27 [(.agg [.int .u8 (.ofNat 30), .int .i64 a, .int .i64 b, .int .i64 c, .int .i64 d])] = some (.tup [.int .i64 (tv 30 a b), .bool (tb 30)]) := gis_sound (by omega) (tab_le all_nil (all_cons (s48 n (by omega)) all_nil)) fd27 (by rfl) (t27_30 n a b c d) (by simp only [Holds]; rfl)
theorem t27_31 (n : Nat) (a b c d : Int) : gis Tryd.prog X (tab X.sh [] [(48, g48)]) 27 n 40 Tryd.f27 [(.agg [.int .u8 (.ofNat 31), .int .i64 a, .int .i64 b, .int .i64 c, .int .i64 d])] (.n 3 (.e)) = .done (.tup [.int (IntKind.i64) (a), .bool (true)]) := by kernel_rfl
theorem s27_31 (n : Nat) (hn : 44 ≤ n) (a b c d : Int) : iso Tryd.prog X (n + 1) 27 [(.agg [.int .u8 (.ofNat 31), .int .i64 a, .int .i64 b, .int .i64 c, .int .i64 d])] = some (.tup [.int .i64 (tv 31 a b), .bool (tb 31)]) := gis_sound (by omega) (tab_le all_nil (all_cons (s48 n (by omega)) all_nil)) fd27 (by rfl) (t27_31 n a b c d) (by simp only [Holds]; rfl)
theorem t27_32 (n : Nat) (a b c d : Int) : gis Tryd.prog X (tab X.sh [] [(48, g48)]) 27 n 40 Tryd.f27 [(.agg [.int .u8 (.ofNat 32), .int .i64 a, .int .i64 b, .int .i64 c, .int .i64 d])] (.n 3 (.e)) = .done (.tup [.int (IntKind.i64) (a), .bool (true)]) := by kernel_rfl
theorem s27_32 (n : Nat) (hn : 44 ≤ n) (a b c d : Int) : iso Tryd.prog X (n + 1) 27 [(.agg [.int .u8 (.ofNat 32), .int .i64 a, .int .i64 b, .int .i64 c, .int .i64 d])] = some (.tup [.int .i64 (tv 32 a b), .bool (tb 32)]) := gis_sound (by omega) (tab_le all_nil (all_cons (s48 n (by omega)) all_nil)) fd27 (by rfl) (t27_32 n a b c d) (by simp only [Holds]; rfl)
theorem t27_33 (n : Nat) (a b c d : Int) : gis Tryd.prog X (tab X.sh [] [(48, g48)]) 27 n 40 Tryd.f27 [(.agg [.int .u8 (.ofNat 33), .int .i64 a, .int .i64 b, .int .i64 c, .int .i64 d])] (.n 3 (.e)) = .done (.tup [.int (IntKind.i64) (a), .bool (true)]) := by kernel_rfl
theorem s27_33 (n : Nat) (hn : 44 ≤ n) (a b c d : Int) : iso Tryd.prog X (n + 1) 27 [(.agg [.int .u8 (.ofNat 33), .int .i64 a, .int .i64 b, .int .i64 c, .int .i64 d])] = some (.tup [.int .i64 (tv 33 a b), .bool (tb 33)]) := gis_sound (by omega) (tab_le all_nil (all_cons (s48 n (by omega)) all_nil)) fd27 (by rfl) (t27_33 n a b c d) (by simp only [Holds]; rfl)
theorem t27_34 (n : Nat) (a b c d : Int) : gis Tryd.prog X (tab X.sh [] [(48, g48)]) 27 n 40 Tryd.f27 [(.agg [.int .u8 (.ofNat 34), .int .i64 a, .int .i64 b, .int .i64 c, .int .i64 d])] (.n 2 (.e)) = .done (.tup [.int (IntKind.i64) (0), .bool (false)]) := by kernel_rfl
theorem s27_34 (n : Nat) (hn : 44 ≤ n) (a b c d : Int) : iso Tryd.prog X (n + 1) 27 [(.agg [.int .u8 (.ofNat 34), .int .i64 a, .int .i64 b, .int .i64 c, .int .i64 d])] = some (.tup [.int .i64 (tv 34 a b), .bool (tb 34)]) := gis_sound (by omega) (tab_le all_nil (all_cons (s48 n (by omega)) all_nil)) fd27 (by rfl) (t27_34 n a b c d) (by simp only [Holds]; rfl)
theorem t27_x (n m : Nat) (a b c d : Int) : gis Tryd.prog X (tab X.sh [] [(48, g48)]) 27 n 40 Tryd.f27 [(.agg [.int .u8 (.ofNat (m + 35)), .int .i64 a, .int .i64 b, .int .i64 c, .int .i64 d])] (.n 2 (.e)) = .done (.tup [.int (IntKind.i64) (0), .bool (false)]) := by kernel_rfl
theorem s27 (n : Nat) (hn : 45 ≤ n) : IsoS Tryd.prog X n (27, g27) := fun l r h => by
  simp only [g27] at h
  split at h
  · rename_i k a b c d
    cases h
    obtain ⟨n, rfl⟩ : ∃ m, n = m + 1 := ⟨n - 1, by omega⟩
    have hn' : 44 ≤ n := by omega
    rcases small k with hk | ⟨m, rfl⟩
    · rcases (by omega : k = 0 ∨ k = 1 ∨ k = 2 ∨ k = 3 ∨ k = 4 ∨ k = 5 ∨ k = 6 ∨ k = 7 ∨ k = 8 ∨ k = 9 ∨ k = 10 ∨ k = 11 ∨ k = 12 ∨ k = 13 ∨ k = 14 ∨ k = 15 ∨ k = 16 ∨ k = 17 ∨ k = 18 ∨ k = 19 ∨ k = 20 ∨ k = 21 ∨ k = 22 ∨ k = 23 ∨ k = 24 ∨ k = 25 ∨ k = 26 ∨ k = 27 ∨ k = 28 ∨ k = 29 ∨ k = 30 ∨ k = 31 ∨ k = 32 ∨ k = 33 ∨ k = 34) with rfl | rfl | rfl | rfl | rfl | rfl | rfl | rfl | rfl | rfl | rfl | rfl | rfl | rfl | rfl | rfl | rfl | rfl | rfl | rfl | rfl | rfl | rfl | rfl | rfl | rfl | rfl | rfl | rfl | rfl | rfl | rfl | rfl | rfl | rfl
      · exact s27_0 n hn' a b c d
      · exact s27_1 n hn' a b c d
      · exact s27_2 n hn' a b c d
      · exact s27_3 n hn' a b c d
      · exact s27_4 n hn' a b c d
      · exact s27_5 n hn' a b c d
      · exact s27_6 n hn' a b c d
      · exact s27_7 n hn' a b c d
      · exact s27_8 n hn' a b c d
      · exact s27_9 n hn' a b c d
      · exact s27_10 n hn' a b c d
      · exact s27_11 n hn' a b c d
      · exact s27_12 n hn' a b c d
      · exact s27_13 n hn' a b c d
      · exact s27_14 n hn' a b c d
      · exact s27_15 n hn' a b c d
      · exact s27_16 n hn' a b c d
      · exact s27_17 n hn' a b c d
      · exact s27_18 n hn' a b c d
      · exact s27_19 n hn' a b c d
      · exact s27_20 n hn' a b c d
      · exact s27_21 n hn' a b c d
      · exact s27_22 n hn' a b c d
      · exact s27_23 n hn' a b c d
      · exact s27_24 n hn' a b c d
      · exact s27_25 n hn' a b c d
      · exact s27_26 n hn' a b c d
      · exact s27_27 n hn' a b c d
      · exact s27_28 n hn' a b c d
      · exact s27_29 n hn' a b c d
      · exact s27_30 n hn' a b c d
      · exact s27_31 n hn' a b c d
      · exact s27_32 n hn' a b c d
      · exact s27_33 n hn' a b c d
      · exact s27_34 n hn' a b c d
    · refine gis_sound (by omega) (tab_le all_nil (all_cons (s48 n (by omega)) all_nil)) fd27 (by rfl) (t27_x n m a b c d) ?_
      simp only [Holds, tv, tb, tg_out]
      rfl
  · cases h
theorem s13 (n : Nat) (hn : 43 ≤ n) : IsoS Tryd.prog X n (13, g13) := fun l r h => by
  simp only [g13] at h
  split at h
  · rename_i k a b c d
    cases h
    obtain ⟨n, rfl⟩ : ∃ m, n = m + 1 := ⟨n - 1, by omega⟩
    have hn' : 42 ≤ n := by omega
    rcases small k with hk | ⟨m, rfl⟩
    · rcases (by omega : k = 0 ∨ k = 1 ∨ k = 2 ∨ k = 3 ∨ k = 4 ∨ k = 5 ∨ k = 6 ∨ k = 7 ∨ k = 8 ∨ k = 9 ∨ k = 10 ∨ k = 11 ∨ k = 12 ∨ k = 13 ∨ k = 14 ∨ k = 15 ∨ k = 16 ∨ k = 17 ∨ k = 18 ∨ k = 19 ∨ k = 20 ∨ k = 21 ∨ k = 22 ∨ k = 23 ∨ k = 24 ∨ k = 25 ∨ k = 26 ∨ k = 27 ∨ k = 28 ∨ k = 29 ∨ k = 30 ∨ k = 31 ∨ k = 32 ∨ k = 33 ∨ k = 34) with rfl | rfl | rfl | rfl | rfl | rfl | rfl | rfl | rfl | rfl | rfl | rfl | rfl | rfl | rfl | rfl | rfl | rfl | rfl | rfl | rfl | rfl | rfl | rfl | rfl | rfl | rfl | rfl | rfl | rfl | rfl | rfl | rfl | rfl | rfl
      · exact s13_0 n hn' a b c d
      · exact s13_1 n hn' a b c d
      · exact s13_2 n hn' a b c d
      · exact s13_3 n hn' a b c d
      · exact s13_4 n hn' a b c d
      · exact s13_5 n hn' a b c d
      · exact s13_6 n hn' a b c d
      · exact s13_7 n hn' a b c d
      · exact s13_8 n hn' a b c d
      · exact s13_9 n hn' a b c d
      · exact s13_10 n hn' a b c d
      · exact s13_11 n hn' a b c d
      · exact s13_12 n hn' a b c d
      · exact s13_13 n hn' a b c d
      · exact s13_14 n hn' a b c d
      · exact s13_15 n hn' a b c d
      · exact s13_16 n hn' a b c d
      · exact s13_17 n hn' a b c d
      · exact s13_18 n hn' a b c d
      · exact s13_19 n hn' a b c d
      · exact s13_20 n hn' a b c d
      · exact s13_21 n hn' a b c d
      · exact s13_22 n hn' a b c d
      · exact s13_23 n hn' a b c d
      · exact s13_24 n hn' a b c d
      · exact s13_25 n hn' a b c d
      · exact s13_26 n hn' a b c d
      · exact s13_27 n hn' a b c d
      · exact s13_28 n hn' a b c d
      · exact s13_29 n hn' a b c d
      · exact s13_30 n hn' a b c d
      · exact s13_31 n hn' a b c d
      · exact s13_32 n hn' a b c d
      · exact s13_33 n hn' a b c d
      · exact s13_34 n hn' a b c d
    · refine gis_sound (by omega) (tab_le all_nil all_nil) fd13 (by rfl) (t13x n m a b c d) ?_
      simp only [Holds]
      refine ⟨fun _ => ?_, fun h => ?_⟩
      · have : validB ((m + 35 : Nat) : Int) a b c d = false := by unfold validB; rw [decide_eq_false (by omega)]; rfl
        rw [this]
      · simp at h; omega
  · cases h
theorem t11 (n : Nat) (k : Int) (a b c d : Int) : gis Tryd.prog X (tab X.sh [] []) 11 n 40 Tryd.f11 [(.agg [.int .u8 k, .int .i64 a, .int .i64 b, .int .i64 c, .int .i64 d])] (.n 1 (.s (.n 2 (.e)) (.s (.n 2 (.e)) (.s (.n 2 (.e)) (.s (.n 2 (.e)) (.s (.n 2 (.e)) (.s (.n 2 (.e)) (.s (.n 2 (.e)) (.s (.n 2 (.e)) (.s (.n 2 (.e)) (.s (.n 2 (.e)) (.s (.n 2 (.e)) (.s (.n 2 (.e)) (.s (.n 2 (.e)) (.s (.n 2 (.e)) (.s (.n 2 (.e)) (.s (.n 2 (.e)) (.s (.n 2 (.e)) (.s (.n 2 (.e)) (.s (.n 2 (.e)) (.s (.n 2 (.e)) (.n 1 (.e))))))))))))))))))))))) = .ask (k == 1) (.done (.agg [.int (IntKind.u8) (IntKind.wrap IntKind.u8 (3 - k)), .int (IntKind.i64) (a), .int (IntKind.i64) (b), .int (IntKind.i64) (c), .int (IntKind.i64) (d)])) (.ask (k == 2) (.done (.agg [.int (IntKind.u8) (IntKind.wrap IntKind.u8 (3 - k)), .int (IntKind.i64) (a), .int (IntKind.i64) (b), .int (IntKind.i64) (c), .int (IntKind.i64) (d)])) (.ask (k == 4) (.done (.agg [.int (IntKind.u8) (IntKind.wrap IntKind.u8 (9 - k)), .int (IntKind.i64) (a), .int (IntKind.i64) (b), .int (IntKind.i64) (c), .int (IntKind.i64) (d)])) (.ask (k == 5) (.done (.agg [.int (IntKind.u8) (IntKind.wrap IntKind.u8 (9 - k)), .int (IntKind.i64) (a), .int (IntKind.i64) (b), .int (IntKind.i64) (c), .int (IntKind.i64) (d)])) (.ask (k == 12) (.done (.agg [.int (IntKind.u8) (IntKind.wrap IntKind.u8 (25 - k)), .int (IntKind.i64) (a), .int (IntKind.i64) (b), .int (IntKind.i64) (c), .int (IntKind.i64) (d)])) (.ask (k == 13) (.done (.agg [.int (IntKind.u8) (IntKind.wrap IntKind.u8 (25 - k)), .int (IntKind.i64) (a), .int (IntKind.i64) (b), .int (IntKind.i64) (c), .int (IntKind.i64) (d)])) (.ask (k == 17) (.done (.agg [.int (IntKind.u8) (IntKind.wrap IntKind.u8 (35 - k)), .int (IntKind.i64) (a), .int (IntKind.i64) (b), .int (IntKind.i64) (c), .int (IntKind.i64) (d)])) (.ask (k == 18) (.done (.agg [.int (IntKind.u8) (IntKind.wrap IntKind.u8 (35 - k)), .int (IntKind.i64) (a), .int (IntKind.i64) (b), .int (IntKind.i64) (c), .int (IntKind.i64) (d)])) (.ask (k == 19) (.done (.agg [.int (IntKind.u8) (IntKind.wrap IntKind.u8 (39 - k)), .int (IntKind.i64) (a), .int (IntKind.i64) (b), .int (IntKind.i64) (c), .int (IntKind.i64) (d)])) (.ask (k == 20) (.done (.agg [.int (IntKind.u8) (IntKind.wrap IntKind.u8 (39 - k)), .int (IntKind.i64) (a), .int (IntKind.i64) (b), .int (IntKind.i64) (c), .int (IntKind.i64) (d)])) (.ask (k == 22) (.done (.agg [.int (IntKind.u8) (IntKind.wrap IntKind.u8 (47 - k)), .int (IntKind.i64) (a), .int (IntKind.i64) (b), .int (IntKind.i64) (c), .int (IntKind.i64) (d)])) (.ask (k == 25) (.done (.agg [.int (IntKind.u8) (IntKind.wrap IntKind.u8 (47 - k)), .int (IntKind.i64) (a), .int (IntKind.i64) (b), .int (IntKind.i64) (c), .int (IntKind.i64) (d)])) (.ask (k == 23) (.done (.agg [.int (IntKind.u8) (IntKind.wrap IntKind.u8 (49 - k)), .int (IntKind.i64) (a), .int (IntKind.i64) (b), .int (IntKind.i64) (c), .int (IntKind.i64) (d)])) (.ask (k == 26) (.done (.agg [.int (IntKind.u8) (IntKind.wrap IntKind.u8 (49 - k)), .int (IntKind.i64) (a), .int (IntKind.i64) (b), .int (IntKind.i64) (c), .int (IntKind.i64) (d)])) (.ask (k == 24) (.done (.agg [.int (IntKind.u8) (IntKind.wrap IntKind.u8 (51 - k)), .int (IntKind.i64) (a), .int (IntKind.i64) (b), .int (IntKind.i64) (c), .int (IntKind.i64) (d)])) (.ask (k == 27) (.done (.agg [.int (IntKind.u8) (IntKind.wrap IntKind.u8 (51 - k)), .int (IntKind.i64) (a), .int (IntKind.i64) (b), .int (IntKind.i64) (c), .int (IntKind.i64) (d)])) (.ask (k == 28) (.done (.agg [.int (IntKind.u8) (IntKind.wrap IntKind.u8 (57 - k)), .int (IntKind.i64) (a), .int (IntKind.i64) (b), .int (IntKind.i64) (c), .int (IntKind.i64) (d)])) (.ask (k == 29) (.done (.agg [.int (IntKind.u8) (IntKind.wrap IntKind.u8 (57 - k)), .int (IntKind.i64) (a), .int (IntKind.i64) (b), .int (IntKind.i64) (c), .int (IntKind.i64) (d)])) (.ask (k == 32) (.done (.agg [.int (IntKind.u8) (IntKind.wrap IntKind.u8 (65 - k)), .int (IntKind.i64) (a), .int (IntKind.i64) (b), .int (IntKind.i64) (c), .int (IntKind.i64) (d)])) (.ask (k == 33) (.done (.agg [.int (IntKind.u8) (IntKind.wrap IntKind.u8 (65 - k)), .int (IntKind.i64) (a), .int (IntKind.i64) (b), .int (IntKind.i64) (c), .int (IntKind.i64) (d)])) (.done (.agg [.int (IntKind.u8) (k), .int (IntKind.i64) (a), .int (IntKind.i64) (b), .int (IntKind.i64) (c), .int (IntKind.i64) (d)]))))))))))))))))))))) := by kernel_rfl
theorem s11 (n : Nat) (hn : 41 ≤ n) : IsoS Tryd.prog X n (11, g11) := fun l r h => by
  simp only [g11] at h
  split at h
  · rename_i k a b c d
    cases h
    obtain ⟨n, rfl⟩ : ∃ m, n = m + 1 := ⟨n - 1, by omega⟩
    refine gis_sound (by omega) (tab_le all_nil all_nil) fd11 (by rfl) (t11 n k a b c d) ?_
    simp only [Holds]
    refine ⟨fun h => by obtain rfl : k = 1 := (by simpa using h); rfl, fun h1 => ?_⟩
    refine ⟨fun h => by obtain rfl : k = 2 := (by simpa using h); rfl, fun h2 => ?_⟩
    refine ⟨fun h => by obtain rfl : k = 4 := (by simpa using h); rfl, fun h4 => ?_⟩
    refine ⟨fun h => by obtain rfl : k = 5 := (by simpa using h); rfl, fun h5 => ?_⟩
    refine ⟨fun h => by obtain rfl : k = 12 := (by simpa using h); rfl, fun h12 => ?_⟩
    refine ⟨fun h => by obtain rfl : k = 13 := (by simpa using h); rfl, fun h13 => ?_⟩
    refine ⟨fun h => by obtain rfl : k = 17 := (by simpa using h); rfl, fun h17 => ?_⟩
    refine ⟨fun h => by obtain rfl : k = 18 := (by simpa using h); rfl, fun h18 => ?_⟩
    refine ⟨fun h => by obtain rfl : k = 19 := (by simpa using h); rfl, fun h19 => ?_⟩
    refine ⟨fun h => by obtain rfl : k = 20 := (by simpa using h); rfl, fun h20 => ?_⟩
    refine ⟨fun h => by obtain rfl : k = 22 := (by simpa using h); rfl, fun h22 => ?_⟩
    refine ⟨fun h => by obtain rfl : k = 25 := (by simpa using h); rfl, fun h25 => ?_⟩
    refine ⟨fun h => by obtain rfl : k = 23 := (by simpa using h); rfl, fun h23 => ?_⟩
    refine ⟨fun h => by obtain rfl : k = 26 := (by simpa using h); rfl, fun h26 => ?_⟩
    refine ⟨fun h => by obtain rfl : k = 24 := (by simpa using h); rfl, fun h24 => ?_⟩
    refine ⟨fun h => by obtain rfl : k = 27 := (by simpa using h); rfl, fun h27 => ?_⟩
    refine ⟨fun h => by obtain rfl : k = 28 := (by simpa using h); rfl, fun h28 => ?_⟩
    refine ⟨fun h => by obtain rfl : k = 29 := (by simpa using h); rfl, fun h29 => ?_⟩
    refine ⟨fun h => by obtain rfl : k = 32 := (by simpa using h); rfl, fun h32 => ?_⟩
    refine ⟨fun h => by obtain rfl : k = 33 := (by simpa using h); rfl, fun h33 => ?_⟩
    simp only [beq_eq_false_iff_ne] at *
    rw [invO_other k (by omega)]
  · cases h
theorem t34 (n : Nat) (k : Int) : gis Tryd.prog X (tab X.sh [] []) 34 n 40 Tryd.f34 [.int .u8 k] (.s (.e) (.s (.s (.e) (.s (.e) (.e))) (.s (.e) (.e)))) = .ask (k == 0) (.done (.bool (true))) (.ask (decide (k ≥ 21)) (.ask (decide (k ≤ 27)) (.done (.bool (true))) (.ask (decide (k ≥ 30)) (.done (.bool (true))) (.done (.bool (false))))) (.ask (decide (k ≥ 30)) (.done (.bool (true))) (.done (.bool (false))))) := by kernel_rfl
theorem t35 (n : Nat) (k : Int) : gis Tryd.prog X (tab X.sh [] []) 35 n 40 Tryd.f35 [.int .u8 k] (.u (.n 4 (.s (.n 2 (.e)) (.n 2 (.s (.n 2 (.e)) (.n 4 (.s (.n 2 (.e)) (.n 2 (.s (.n 2 (.e)) (.n 4 (.s (.n 2 (.e)) (.n 2 (.s (.n 2 (.e)) (.n 4 (.s (.n 2 (.e)) (.n 2 (.s (.n 2 (.e)) (.n 4 (.s (.n 2 (.e)) (.n 2 (.s (.n 2 (.e)) (.n 4 (.s (.n 2 (.e)) (.n 2 (.s (.n 2 (.e)) (.n 2 (.e))))))))))))))))))))))))))) = .ask (1 == k) (.done (.int (IntKind.u8) (2))) (.ask (2 == k) (.done (.int (IntKind.u8) (1))) (.ask (4 == k) (.done (.int (IntKind.u8) (5))) (.ask (5 == k) (.done (.int (IntKind.u8) (4))) (.ask (12 == k) (.done (.int (IntKind.u8) (13))) (.ask (13 == k) (.done (.int (IntKind.u8) (12))) (.ask (17 == k) (.done (.int (IntKind.u8) (18))) (.ask (18 == k) (.done (.int (IntKind.u8) (17))) (.ask (19 == k) (.done (.int (IntKind.u8) (20))) (.ask (20 == k) (.done (.int (IntKind.u8) (19))) (.ask (28 == k) (.done (.int (IntKind.u8) (29))) (.ask (29 == k) (.done (.int (IntKind.u8) (28))) (.done (.int (IntKind.u8) (k)))))))))))))) := by kernel_rfl
theorem s34 (n : Nat) (hn : 41 ≤ n) : IsoS Tryd.prog X n (34, g34) := fun l r h => by
  simp only [g34] at h
  split at h
  · rename_i k
    cases h
    obtain ⟨n, rfl⟩ : ∃ m, n = m + 1 := ⟨n - 1, by omega⟩
    refine gis_sound (by omega) (tab_le all_nil all_nil) fd34 (by rfl) (t34 n k) ?_
    simp only [Holds, ctl, beq_iff_eq, bne_iff_ne, decide_eq_true_eq, decide_eq_false_iff_not, beq_eq_false_iff_ne, PV.bool.injEq]
    grind
  · cases h
theorem s35 (n : Nat) (hn : 41 ≤ n) : IsoS Tryd.prog X n (35, g35) := fun l r h => by
  simp only [g35] at h
  split at h
  · rename_i k
    cases h
    obtain ⟨n, rfl⟩ : ∃ m, n = m + 1 := ⟨n - 1, by omega⟩
    refine gis_sound (by omega) (tab_le all_nil all_nil) fd35 (by rfl) (t35 n k) ?_
    simp only [Holds]
    refine ⟨fun h => by obtain rfl : 1 = k := (by simpa using h); rfl, fun h1 => ?_⟩
    refine ⟨fun h => by obtain rfl : 2 = k := (by simpa using h); rfl, fun h2 => ?_⟩
    refine ⟨fun h => by obtain rfl : 4 = k := (by simpa using h); rfl, fun h4 => ?_⟩
    refine ⟨fun h => by obtain rfl : 5 = k := (by simpa using h); rfl, fun h5 => ?_⟩
    refine ⟨fun h => by obtain rfl : 12 = k := (by simpa using h); rfl, fun h12 => ?_⟩
    refine ⟨fun h => by obtain rfl : 13 = k := (by simpa using h); rfl, fun h13 => ?_⟩
    refine ⟨fun h => by obtain rfl : 17 = k := (by simpa using h); rfl, fun h17 => ?_⟩
    refine ⟨fun h => by obtain rfl : 18 = k := (by simpa using h); rfl, fun h18 => ?_⟩
    refine ⟨fun h => by obtain rfl : 19 = k := (by simpa using h); rfl, fun h19 => ?_⟩
    refine ⟨fun h => by obtain rfl : 20 = k := (by simpa using h); rfl, fun h20 => ?_⟩
    refine ⟨fun h => by obtain rfl : 28 = k := (by simpa using h); rfl, fun h28 => ?_⟩
    refine ⟨fun h => by obtain rfl : 29 = k := (by simpa using h); rfl, fun h29 => ?_⟩
    simp only [beq_eq_false_iff_ne] at *
    unfold inv35
    rw [if_neg (by omega)]
    rw [if_neg (by omega)]
    rw [if_neg (by omega)]
    rw [if_neg (by omega)]
    rw [if_neg (by omega)]
    rw [if_neg (by omega)]
    rw [if_neg (by omega)]
    rw [if_neg (by omega)]
    rw [if_neg (by omega)]
    rw [if_neg (by omega)]
    rw [if_neg (by omega)]
    rw [if_neg (by omega)]
  · cases h
theorem t14 (n : Nat) (k : Int) (a b c d k' a' b' c' d' : Int) : gis Tryd.prog X (tab X.sh [(34, g34), (35, g35)] []) 14 n 40 Tryd.f14 [(.agg [.int .u8 k, .int .i64 a, .int .i64 b, .int .i64 c, .int .i64 d]), (.agg [.int .u8 k', .int .i64 a', .int .i64 b', .int .i64 c', .int .i64 d'])] (.n 1 (.s (.e) (.n 4 (.s (.e) (.e))))) = .ask (ctl k) (.done (.bool (false))) (.ask (inv35 k == k' && (a == a' && (b == b' && (c == c' && (d == d' && true))))) (.done (.bool (true))) (.done (.bool (false)))) := by kernel_rfl
theorem t12 (n k : Nat) (a b c d k' a' b' c' d' : Int) : gis Tryd.prog X (tab X.sh [(27, g27), (13, g13), (11, g11)] []) 12 n 40 Tryd.f12 [(.agg [.int .u8 (.ofNat k), .int .i64 a, .int .i64 b, .int .i64 c, .int .i64 d]), (.agg [.int .u8 k', .int .i64 a', .int .i64 b', .int .i64 c', .int .i64 d'])] (.n 3 (.s (.e) (.n 1 (.s (.e) (.s (.e) (.s (.e) (.n 1 (.s (.n 3 (.s (.e) (.e))) (.e))))))))) = .ask (tb ↑k) (.done (.bool (false))) (.ask (Int.ofNat k == 34) (.done (.bool (false))) (.ask (Int.ofNat k == 21) (.done (.bool (false))) (.ask (Int.ofNat k == 0) (.done (.bool (false))) (.ask (validB (↑k) a b c d) (.ask (k' == invO (Int.ofNat k) && (a' == a && (b' == b && (c' == c && (d' == d && true))))) (.done (.bool (true))) (.done (.bool (false)))) (.done (.bool (false))))))) := by kernel_rfl
theorem t3 (n k : Nat) (a b c d k' a' b' c' d' : Int) : gis Tryd.prog X (tab X.sh [(10, g10), (11, g11), (12, g12), (13, g13), (14, g14)] []) 3 n 40 Tryd.f3 [(.agg [.int .u8 (.ofNat k), .int .i64 a, .int .i64 b, .int .i64 c, .int .i64 d]), (.agg [.int .u8 k', .int .i64 a', .int .i64 b', .int .i64 c', .int .i64 d'])] (.n 5 (.s (.n 1 (.s (.n 2 (.s (.n 3 (.s (.n 1 (.s (.n 2 (.s (.n 1 (.e)) (.n 1 (.e)))) (.n 1 (.e)))) (.n 1 (.s (.n 2 (.s (.n 1 (.e)) (.n 1 (.e)))) (.n 1 (.e)))))) (.n 1 (.e)))) (.n 1 (.e)))) (.n 1 (.s (.n 2 (.s (.n 1 (.e)) (.n 3 (.s (.n 1 (.s (.n 2 (.s (.n 1 (.e)) (.n 1 (.e)))) (.n 1 (.e)))) (.n 1 (.s (.n 2 (.s (.n 1 (.e)) (.n 1 (.e)))) (.n 1 (.e)))))))) (.n 3 (.s (.n 1 (.s (.n 2 (.s (.n 1 (.e)) (.n 1 (.e)))) (.n 1 (.e)))) (.n 1 (.s (.n 2 (.s (.n 1 (.e)) (.n 1 (.e)))) (.n 1 (.e)))))))))) = .ask (canP (↑k) a b c d k' a' b' c' d') (.ask (validB (↑k) a b c d) (.ask (canR (Int.ofNat k) a b c d k' a' b' c' d') (.ask (canP (↑k) a b c d (invO (Int.ofNat k)) a b c d) (.ask (validB (↑k) a b c d) (.ask (canR (Int.ofNat k) a b c d (invO (Int.ofNat k)) a b c d) (.done (.bool (true))) (.done (.bool (false)))) (.done (.bool (false)))) (.ask (validB (↑k) a b c d) (.ask (canR (Int.ofNat k) a b c d (invO (Int.ofNat k)) a b c d) (.done (.bool (false))) (.done (.bool (true)))) (.done (.bool (true))))) (.done (.bool (false)))) (.done (.bool (false)))) (.ask (validB (↑k) a b c d) (.ask (canR (Int.ofNat k) a b c d k' a' b' c' d') (.done (.bool (false))) (.ask (canP (↑k) a b c d (invO (Int.ofNat k)) a b c d) (.ask (validB (↑k) a b c d) (.ask (canR (Int.ofNat k) a b c d (invO (Int.ofNat k)) a b c d) (.done (.bool (true))) (.done (.bool (false)))) (.done (.bool (false)))) (.ask (validB (↑k) a b c d) (.ask (canR (Int.ofNat k) a b c d (invO (Int.ofNat k)) a b c d) (.done (.bool (false))) (.done (.bool (true)))) (.done (.bool (true)))))) (.ask (canP (↑k) a b c d (invO (Int.ofNat k)) a b c d) (.ask (validB (↑k) a b c d) (.ask (canR (Int.ofNat k) a b c d (invO (Int.ofNat k)) a b c d) (.done (.bool (true))) (.done (.bool (false)))) (.done (.bool (false)))) (.ask (validB (↑k) a b c d) (.ask (canR (Int.ofNat k) a b c d (invO (Int.ofNat k)) a b c d) (.done (.bool (false))) (.done (.bool (true)))) (.done (.bool (true)))))) := by kernel_rfl
theorem s14 (n : Nat) (hn : 42 ≤ n) : IsoS Tryd.prog X n (14, g14) := fun l r h => by
  simp only [g14] at h
  split at h
  · rename_i k a b c d k' a' b' c' d'
    cases h
    obtain ⟨n, rfl⟩ : ∃ m, n = m + 1 := ⟨n - 1, by omega⟩
    refine gis_sound (by omega) (tab_le (all_cons (s34 n (by omega)) (all_cons (s35 n (by omega)) all_nil)) all_nil) fd14 (by rfl) (t14 n k a b c d k' a' b' c' d') ?_
    simp only [Holds, canR, same, beq_iff_eq, bne_iff_ne, decide_eq_true_eq, decide_eq_false_iff_not, beq_eq_false_iff_ne, PV.bool.injEq]
    grind
  · cases h
theorem s12 (n : Nat) (hn : 46 ≤ n) : IsoS Tryd.prog X n (12, g12) := fun l r h => by
  simp only [g12] at h
  split at h
  · rename_i k a b c d k' a' b' c' d'
    cases h
    obtain ⟨n, rfl⟩ : ∃ m, n = m + 1 := ⟨n - 1, by omega⟩
    refine gis_sound (by omega) (tab_le (all_cons (s27 n (by omega)) (all_cons (s13 n (by omega)) (all_cons (s11 n (by omega)) all_nil))) all_nil) fd12 (by rfl) (t12 n k a b c d k' a' b' c' d') ?_
    simp only [Holds, canP, same, bne, Bool.and_true, Int.ofNat_eq_natCast, PV.bool.injEq]
    generalize tb k = p1
    generalize ((k : Int) == 34) = p2
    generalize ((k : Int) == 21) = p3
    generalize ((k : Int) == 0) = p4
    generalize validB k a b c d = p5
    generalize (k' == invO k && (a' == a && (b' == b && (c' == c && d' == d)))) = p6
    cases p1 <;> cases p2 <;> cases p3 <;> cases p4 <;> cases p5 <;> cases p6 <;> simp
  · cases h
end Go.Proofs.YtkfmhmkeikhdbaaDoor
