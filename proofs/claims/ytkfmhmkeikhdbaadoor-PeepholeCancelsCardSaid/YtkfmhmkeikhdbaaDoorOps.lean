/- What the program's functions give, read with values that are not known. -/
import Derived.Test.YtkfmhmkeikhdbaaDoorBase
import Derived.Test.YtkfmhmkeikhdbaaDoorPvV
import Derived.Test.YtkfmhmkeikhdbaaDoorCls
import Derived.Test.YtkfmhmkeikhdbaaDoorTab
import Derived.Test.YtkfmhmkeikhdbaaDoorValid
namespace Go.Proofs.YtkfmhmkeikhdbaaDoor
open Go.Proofs.YtkfmhmkeikhdbaaDoor.Pv Go.RowKit
set_option maxRecDepth 100000
set_option maxHeartbeats 4000000
set_option linter.unusedSimpArgs false
set_option linter.unusedVariables false
def h33 (l : List PV) : Option PV := match l with | [.int .u8 c, .int .i64 x] => some (.bool (clsOk c x)) | _ => none
def h32 (l : List PV) : Option PV := match l with | [.int .u8 k] => if 0 ≤ k ∧ k < 35 then some (.agg [.str (mnS k), .str (opS k)]) else none | _ => none

theorem t33 (n : Nat) (c x : Int) : gis Tryd.prog X (tab X.sh [] []) 33 n 40 Tryd.f33 [.int .u8 c, .int .i64 x] (.s (.s (.s (.e) (.e)) (.e)) (.s (.s (.s (.e) (.e)) (.e)) (.s (.s (.s (.e) (.e)) (.e)) (.s (.s (.s (.e) (.e)) (.e)) (.s (.s (.s (.e) (.e)) (.e)) (.e)))))) = .ask (c == 114) (.ask (decide (x ≥ 0)) (.ask (decide (x < 16)) (.done (.bool (true))) (.done (.bool (false)))) (.done (.bool (false)))) (.ask (c == 107) (.ask (decide (x ≥ 0)) (.ask (decide (x ≤ 16384)) (.done (.bool (true))) (.done (.bool (false)))) (.done (.bool (false)))) (.ask (c == 116) (.ask (decide (x ≥ 0)) (.ask (decide (x < 65536)) (.done (.bool (true))) (.done (.bool (false)))) (.done (.bool (false)))) (.ask (c == 101) (.ask (decide (x ≥ 1)) (.ask (decide (x ≤ 23)) (.done (.bool (true))) (.done (.bool (false)))) (.done (.bool (false)))) (.ask (c == 111) (.ask (decide (x ≥ 8)) (.ask (decide (x ≤ 23)) (.done (.bool (true))) (.done (.bool (false)))) (.done (.bool (false)))) (.done (.bool (true))))))) := by kernel_rfl
theorem s33 (n : Nat) (hn : 41 ≤ n) : IsoS Tryd.prog X n (33, h33) := fun l r h => by
  simp only [h33] at h
  split at h
  · rename_i c x
    cases h
    obtain ⟨n, rfl⟩ : ∃ m, n = m + 1 := ⟨n - 1, by omega⟩
    refine gis_sound (by omega) (tab_le all_nil all_nil) fd33 (by rfl) (t33 n c x) ?_
    simp only [Holds, clsOk, beq_iff_eq, decide_eq_true_eq, decide_eq_false_iff_not, beq_eq_false_iff_ne, PV.bool.injEq]
    grind
  · cases h
theorem t32_0 (n : Nat) : gis Tryd.prog X (tab X.sh [] []) 32 n 40 Tryd.f32 [.int .u8 0] (.n 3 (.e)) = .done (.agg [.str ({ data := { toList := [OfNat.ofNat 110, OfNat.ofNat 111, OfNat.ofNat 112] } }), .str ({ data := { toList := [] } })]) := by kernel_rfl
theorem s32_0 (n : Nat) (hn : 40 ≤ n) : iso Tryd.prog X (n + 1) 32 [.int .u8 0] = some (.agg [.str (mnS 0), .str (opS 0)]) := gis_sound hn (tab_le all_nil all_nil) fd32 (by rfl) (t32_0 n) (by simp only [Holds]; rfl)
theorem t32_1 (n : Nat) : gis Tryd.prog X (tab X.sh [] []) 32 n 40 Tryd.f32 [.int .u8 1] (.n 3 (.e)) = .done (.agg [.str ({ data := { toList := [OfNat.ofNat 97, OfNat.ofNat 100, OfNat.ofNat 100] } }), .str ({ data := { toList := [OfNat.ofNat 114, OfNat.ofNat 114] } })]) := by kernel_rfl
theorem s32_1 (n : Nat) (hn : 40 ≤ n) : iso Tryd.prog X (n + 1) 32 [.int .u8 1] = some (.agg [.str (mnS 1), .str (opS 1)]) := gis_sound hn (tab_le all_nil all_nil) fd32 (by rfl) (t32_1 n) (by simp only [Holds]; rfl)
theorem t32_2 (n : Nat) : gis Tryd.prog X (tab X.sh [] []) 32 n 40 Tryd.f32 [.int .u8 2] (.n 3 (.e)) = .done (.agg [.str ({ data := { toList := [OfNat.ofNat 115, OfNat.ofNat 117, OfNat.ofNat 98] } }), .str ({ data := { toList := [OfNat.ofNat 114, OfNat.ofNat 114] } })]) := by kernel_rfl
theorem s32_2 (n : Nat) (hn : 40 ≤ n) : iso Tryd.prog X (n + 1) 32 [.int .u8 2] = some (.agg [.str (mnS 2), .str (opS 2)]) := gis_sound hn (tab_le all_nil all_nil) fd32 (by rfl) (t32_2 n) (by simp only [Holds]; rfl)
theorem t32_3 (n : Nat) : gis Tryd.prog X (tab X.sh [] []) 32 n 40 Tryd.f32 [.int .u8 3] (.n 3 (.e)) = .done (.agg [.str ({ data := { toList := [OfNat.ofNat 120, OfNat.ofNat 111, OfNat.ofNat 114] } }), .str ({ data := { toList := [OfNat.ofNat 114, OfNat.ofNat 114] } })]) := by kernel_rfl
theorem s32_3 (n : Nat) (hn : 40 ≤ n) : iso Tryd.prog X (n + 1) 32 [.int .u8 3] = some (.agg [.str (mnS 3), .str (opS 3)]) := gis_sound hn (tab_le all_nil all_nil) fd32 (by rfl) (t32_3 n) (by simp only [Holds]; rfl)
theorem t32_4 (n : Nat) : gis Tryd.prog X (tab X.sh [] []) 32 n 40 Tryd.f32 [.int .u8 4] (.n 3 (.e)) = .done (.agg [.str ({ data := { toList := [OfNat.ofNat 97, OfNat.ofNat 100, OfNat.ofNat 100, OfNat.ofNat 105] } }), .str ({ data := { toList := [OfNat.ofNat 114, OfNat.ofNat 110] } })]) := by kernel_rfl
theorem s32_4 (n : Nat) (hn : 40 ≤ n) : iso Tryd.prog X (n + 1) 32 [.int .u8 4] = some (.agg [.str (mnS 4), .str (opS 4)]) := gis_sound hn (tab_le all_nil all_nil) fd32 (by rfl) (t32_4 n) (by simp only [Holds]; rfl)
theorem t32_5 (n : Nat) : gis Tryd.prog X (tab X.sh [] []) 32 n 40 Tryd.f32 [.int .u8 5] (.n 3 (.e)) = .done (.agg [.str ({ data := { toList := [OfNat.ofNat 115, OfNat.ofNat 117, OfNat.ofNat 98, OfNat.ofNat 105] } }), .str ({ data := { toList := [OfNat.ofNat 114, OfNat.ofNat 110] } })]) := by kernel_rfl
theorem s32_5 (n : Nat) (hn : 40 ≤ n) : iso Tryd.prog X (n + 1) 32 [.int .u8 5] = some (.agg [.str (mnS 5), .str (opS 5)]) := gis_sound hn (tab_le all_nil all_nil) fd32 (by rfl) (t32_5 n) (by simp only [Holds]; rfl)
theorem t32_6 (n : Nat) : gis Tryd.prog X (tab X.sh [] []) 32 n 40 Tryd.f32 [.int .u8 6] (.n 3 (.e)) = .done (.agg [.str ({ data := { toList := [OfNat.ofNat 120, OfNat.ofNat 111, OfNat.ofNat 114, OfNat.ofNat 105] } }), .str ({ data := { toList := [OfNat.ofNat 114, OfNat.ofNat 110] } })]) := by kernel_rfl
theorem s32_6 (n : Nat) (hn : 40 ≤ n) : iso Tryd.prog X (n + 1) 32 [.int .u8 6] = some (.agg [.str (mnS 6), .str (opS 6)]) := gis_sound hn (tab_le all_nil all_nil) fd32 (by rfl) (t32_6 n) (by simp only [Holds]; rfl)
theorem t32_7 (n : Nat) : gis Tryd.prog X (tab X.sh [] []) 32 n 40 Tryd.f32 [.int .u8 7] (.n 3 (.e)) = .done (.agg [.str ({ data := { toList := [OfNat.ofNat 115, OfNat.ofNat 119, OfNat.ofNat 97, OfNat.ofNat 112] } }), .str ({ data := { toList := [OfNat.ofNat 114, OfNat.ofNat 114] } })]) := by kernel_rfl
theorem s32_7 (n : Nat) (hn : 40 ≤ n) : iso Tryd.prog X (n + 1) 32 [.int .u8 7] = some (.agg [.str (mnS 7), .str (opS 7)]) := gis_sound hn (tab_le all_nil all_nil) fd32 (by rfl) (t32_7 n) (by simp only [Holds]; rfl)
theorem t32_8 (n : Nat) : gis Tryd.prog X (tab X.sh [] []) 32 n 40 Tryd.f32 [.int .u8 8] (.n 3 (.e)) = .done (.agg [.str ({ data := { toList := [OfNat.ofNat 110, OfNat.ofNat 101, OfNat.ofNat 103] } }), .str ({ data := { toList := [OfNat.ofNat 114] } })]) := by kernel_rfl
theorem s32_8 (n : Nat) (hn : 40 ≤ n) : iso Tryd.prog X (n + 1) 32 [.int .u8 8] = some (.agg [.str (mnS 8), .str (opS 8)]) := gis_sound hn (tab_le all_nil all_nil) fd32 (by rfl) (t32_8 n) (by simp only [Holds]; rfl)
theorem t32_9 (n : Nat) : gis Tryd.prog X (tab X.sh [] []) 32 n 40 Tryd.f32 [.int .u8 9] (.n 3 (.e)) = .done (.agg [.str ({ data := { toList := [OfNat.ofNat 99, OfNat.ofNat 97, OfNat.ofNat 108, OfNat.ofNat 99] } }), .str ({ data := { toList := [OfNat.ofNat 114, OfNat.ofNat 114, OfNat.ofNat 114, OfNat.ofNat 111] } })]) := by kernel_rfl
theorem s32_9 (n : Nat) (hn : 40 ≤ n) : iso Tryd.prog X (n + 1) 32 [.int .u8 9] = some (.agg [.str (mnS 9), .str (opS 9)]) := gis_sound hn (tab_le all_nil all_nil) fd32 (by rfl) (t32_9 n) (by simp only [Holds]; rfl)
theorem t32_10 (n : Nat) : gis Tryd.prog X (tab X.sh [] []) 32 n 40 Tryd.f32 [.int .u8 10] (.n 3 (.e)) = .done (.agg [.str ({ data := { toList := [OfNat.ofNat 109, OfNat.ofNat 101, OfNat.ofNat 109] } }), .str ({ data := { toList := [OfNat.ofNat 114, OfNat.ofNat 107] } })]) := by kernel_rfl
theorem s32_10 (n : Nat) (hn : 40 ≤ n) : iso Tryd.prog X (n + 1) 32 [.int .u8 10] = some (.agg [.str (mnS 10), .str (opS 10)]) := gis_sound hn (tab_le all_nil all_nil) fd32 (by rfl) (t32_10 n) (by simp only [Holds]; rfl)
theorem t32_11 (n : Nat) : gis Tryd.prog X (tab X.sh [] []) 32 n 40 Tryd.f32 [.int .u8 11] (.n 3 (.e)) = .done (.agg [.str ({ data := { toList := [OfNat.ofNat 105, OfNat.ofNat 100, OfNat.ofNat 120] } }), .str ({ data := { toList := [OfNat.ofNat 114, OfNat.ofNat 114, OfNat.ofNat 107, OfNat.ofNat 107] } })]) := by kernel_rfl
theorem s32_11 (n : Nat) (hn : 40 ≤ n) : iso Tryd.prog X (n + 1) 32 [.int .u8 11] = some (.agg [.str (mnS 11), .str (opS 11)]) := gis_sound hn (tab_le all_nil all_nil) fd32 (by rfl) (t32_11 n) (by simp only [Holds]; rfl)
theorem t32_12 (n : Nat) : gis Tryd.prog X (tab X.sh [] []) 32 n 40 Tryd.f32 [.int .u8 12] (.n 3 (.e)) = .done (.agg [.str ({ data := { toList := [OfNat.ofNat 112, OfNat.ofNat 117, OfNat.ofNat 115, OfNat.ofNat 104] } }), .str ({ data := { toList := [OfNat.ofNat 114, OfNat.ofNat 107] } })]) := by kernel_rfl
theorem s32_12 (n : Nat) (hn : 40 ≤ n) : iso Tryd.prog X (n + 1) 32 [.int .u8 12] = some (.agg [.str (mnS 12), .str (opS 12)]) := gis_sound hn (tab_le all_nil all_nil) fd32 (by rfl) (t32_12 n) (by simp only [Holds]; rfl)
theorem t32_13 (n : Nat) : gis Tryd.prog X (tab X.sh [] []) 32 n 40 Tryd.f32 [.int .u8 13] (.n 3 (.e)) = .done (.agg [.str ({ data := { toList := [OfNat.ofNat 112, OfNat.ofNat 111, OfNat.ofNat 112] } }), .str ({ data := { toList := [OfNat.ofNat 114, OfNat.ofNat 107] } })]) := by kernel_rfl
theorem s32_13 (n : Nat) (hn : 40 ≤ n) : iso Tryd.prog X (n + 1) 32 [.int .u8 13] = some (.agg [.str (mnS 13), .str (opS 13)]) := gis_sound hn (tab_le all_nil all_nil) fd32 (by rfl) (t32_13 n) (by simp only [Holds]; rfl)
theorem t32_14 (n : Nat) : gis Tryd.prog X (tab X.sh [] []) 32 n 40 Tryd.f32 [.int .u8 14] (.n 3 (.e)) = .done (.agg [.str ({ data := { toList := [OfNat.ofNat 116, OfNat.ofNat 111, OfNat.ofNat 112] } }), .str ({ data := { toList := [OfNat.ofNat 114, OfNat.ofNat 107] } })]) := by kernel_rfl
theorem s32_14 (n : Nat) (hn : 40 ≤ n) : iso Tryd.prog X (n + 1) 32 [.int .u8 14] = some (.agg [.str (mnS 14), .str (opS 14)]) := gis_sound hn (tab_le all_nil all_nil) fd32 (by rfl) (t32_14 n) (by simp only [Holds]; rfl)
theorem t32_15 (n : Nat) : gis Tryd.prog X (tab X.sh [] []) 32 n 40 Tryd.f32 [.int .u8 15] (.n 3 (.e)) = .done (.agg [.str ({ data := { toList := [OfNat.ofNat 115, OfNat.ofNat 105, OfNat.ofNat 122, OfNat.ofNat 101] } }), .str ({ data := { toList := [OfNat.ofNat 114, OfNat.ofNat 107] } })]) := by kernel_rfl
theorem s32_15 (n : Nat) (hn : 40 ≤ n) : iso Tryd.prog X (n + 1) 32 [.int .u8 15] = some (.agg [.str (mnS 15), .str (opS 15)]) := gis_sound hn (tab_le all_nil all_nil) fd32 (by rfl) (t32_15 n) (by simp only [Holds]; rfl)
theorem t32_16 (n : Nat) : gis Tryd.prog X (tab X.sh [] []) 32 n 40 Tryd.f32 [.int .u8 16] (.n 3 (.e)) = .done (.agg [.str ({ data := { toList := [OfNat.ofNat 115, OfNat.ofNat 119, OfNat.ofNat 97, OfNat.ofNat 112, OfNat.ofNat 115] } }), .str ({ data := { toList := [OfNat.ofNat 107, OfNat.ofNat 107] } })]) := by kernel_rfl
theorem s32_16 (n : Nat) (hn : 40 ≤ n) : iso Tryd.prog X (n + 1) 32 [.int .u8 16] = some (.agg [.str (mnS 16), .str (opS 16)]) := gis_sound hn (tab_le all_nil all_nil) fd32 (by rfl) (t32_16 n) (by simp only [Holds]; rfl)
theorem t32_17 (n : Nat) : gis Tryd.prog X (tab X.sh [] []) 32 n 40 Tryd.f32 [.int .u8 17] (.n 3 (.e)) = .done (.agg [.str ({ data := { toList := [OfNat.ofNat 114, OfNat.ofNat 101, OfNat.ofNat 97, OfNat.ofNat 100] } }), .str ({ data := { toList := [OfNat.ofNat 114] } })]) := by kernel_rfl
theorem s32_17 (n : Nat) (hn : 40 ≤ n) : iso Tryd.prog X (n + 1) 32 [.int .u8 17] = some (.agg [.str (mnS 17), .str (opS 17)]) := gis_sound hn (tab_le all_nil all_nil) fd32 (by rfl) (t32_17 n) (by simp only [Holds]; rfl)
theorem t32_18 (n : Nat) : gis Tryd.prog X (tab X.sh [] []) 32 n 40 Tryd.f32 [.int .u8 18] (.n 3 (.e)) = .done (.agg [.str ({ data := { toList := [OfNat.ofNat 117, OfNat.ofNat 110, OfNat.ofNat 114, OfNat.ofNat 101, OfNat.ofNat 97, OfNat.ofNat 100] } }), .str ({ data := { toList := [OfNat.ofNat 114] } })]) := by kernel_rfl
theorem s32_18 (n : Nat) (hn : 40 ≤ n) : iso Tryd.prog X (n + 1) 32 [.int .u8 18] = some (.agg [.str (mnS 18), .str (opS 18)]) := gis_sound hn (tab_le all_nil all_nil) fd32 (by rfl) (t32_18 n) (by simp only [Holds]; rfl)
theorem t32_19 (n : Nat) : gis Tryd.prog X (tab X.sh [] []) 32 n 40 Tryd.f32 [.int .u8 19] (.n 3 (.e)) = .done (.agg [.str ({ data := { toList := [OfNat.ofNat 119, OfNat.ofNat 114, OfNat.ofNat 105, OfNat.ofNat 116, OfNat.ofNat 101] } }), .str ({ data := { toList := [OfNat.ofNat 114] } })]) := by kernel_rfl
theorem s32_19 (n : Nat) (hn : 40 ≤ n) : iso Tryd.prog X (n + 1) 32 [.int .u8 19] = some (.agg [.str (mnS 19), .str (opS 19)]) := gis_sound hn (tab_le all_nil all_nil) fd32 (by rfl) (t32_19 n) (by simp only [Holds]; rfl)
theorem t32_20 (n : Nat) : gis Tryd.prog X (tab X.sh [] []) 32 n 40 Tryd.f32 [.int .u8 20] (.n 3 (.e)) = .done (.agg [.str ({ data := { toList := [OfNat.ofNat 117, OfNat.ofNat 110, OfNat.ofNat 119, OfNat.ofNat 114, OfNat.ofNat 105, OfNat.ofNat 116, OfNat.ofNat 101] } }), .str ({ data := { toList := [OfNat.ofNat 114] } })]) := by kernel_rfl
theorem s32_20 (n : Nat) (hn : 40 ≤ n) : iso Tryd.prog X (n + 1) 32 [.int .u8 20] = some (.agg [.str (mnS 20), .str (opS 20)]) := gis_sound hn (tab_le all_nil all_nil) fd32 (by rfl) (t32_20 n) (by simp only [Holds]; rfl)
theorem t32_21 (n : Nat) : gis Tryd.prog X (tab X.sh [] []) 32 n 40 Tryd.f32 [.int .u8 21] (.n 3 (.e)) = .done (.agg [.str ({ data := { toList := [OfNat.ofNat 122, OfNat.ofNat 101, OfNat.ofNat 114, OfNat.ofNat 111] } }), .str ({ data := { toList := [OfNat.ofNat 114, OfNat.ofNat 101] } })]) := by kernel_rfl
theorem s32_21 (n : Nat) (hn : 40 ≤ n) : iso Tryd.prog X (n + 1) 32 [.int .u8 21] = some (.agg [.str (mnS 21), .str (opS 21)]) := gis_sound hn (tab_le all_nil all_nil) fd32 (by rfl) (t32_21 n) (by simp only [Holds]; rfl)
theorem t32_22 (n : Nat) : gis Tryd.prog X (tab X.sh [] []) 32 n 40 Tryd.f32 [.int .u8 22] (.n 3 (.e)) = .done (.agg [.str ({ data := { toList := [OfNat.ofNat 106, OfNat.ofNat 109, OfNat.ofNat 112] } }), .str ({ data := { toList := [OfNat.ofNat 116] } })]) := by kernel_rfl
theorem s32_22 (n : Nat) (hn : 40 ≤ n) : iso Tryd.prog X (n + 1) 32 [.int .u8 22] = some (.agg [.str (mnS 22), .str (opS 22)]) := gis_sound hn (tab_le all_nil all_nil) fd32 (by rfl) (t32_22 n) (by simp only [Holds]; rfl)
theorem t32_23 (n : Nat) : gis Tryd.prog X (tab X.sh [] []) 32 n 40 Tryd.f32 [.int .u8 23] (.n 3 (.e)) = .done (.agg [.str ({ data := { toList := [OfNat.ofNat 106, OfNat.ofNat 109, OfNat.ofNat 112, OfNat.ofNat 122] } }), .str ({ data := { toList := [OfNat.ofNat 114, OfNat.ofNat 116] } })]) := by kernel_rfl
theorem s32_23 (n : Nat) (hn : 40 ≤ n) : iso Tryd.prog X (n + 1) 32 [.int .u8 23] = some (.agg [.str (mnS 23), .str (opS 23)]) := gis_sound hn (tab_le all_nil all_nil) fd32 (by rfl) (t32_23 n) (by simp only [Holds]; rfl)
theorem t32_24 (n : Nat) : gis Tryd.prog X (tab X.sh [] []) 32 n 40 Tryd.f32 [.int .u8 24] (.n 3 (.e)) = .done (.agg [.str ({ data := { toList := [OfNat.ofNat 106, OfNat.ofNat 109, OfNat.ofNat 112, OfNat.ofNat 110] } }), .str ({ data := { toList := [OfNat.ofNat 114, OfNat.ofNat 116] } })]) := by kernel_rfl
theorem s32_24 (n : Nat) (hn : 40 ≤ n) : iso Tryd.prog X (n + 1) 32 [.int .u8 24] = some (.agg [.str (mnS 24), .str (opS 24)]) := gis_sound hn (tab_le all_nil all_nil) fd32 (by rfl) (t32_24 n) (by simp only [Holds]; rfl)
theorem t32_25 (n : Nat) : gis Tryd.prog X (tab X.sh [] []) 32 n 40 Tryd.f32 [.int .u8 25] (.n 3 (.e)) = .done (.agg [.str ({ data := { toList := [OfNat.ofNat 108, OfNat.ofNat 97, OfNat.ofNat 110, OfNat.ofNat 100] } }), .str ({ data := { toList := [OfNat.ofNat 116] } })]) := by kernel_rfl
theorem s32_25 (n : Nat) (hn : 40 ≤ n) : iso Tryd.prog X (n + 1) 32 [.int .u8 25] = some (.agg [.str (mnS 25), .str (opS 25)]) := gis_sound hn (tab_le all_nil all_nil) fd32 (by rfl) (t32_25 n) (by simp only [Holds]; rfl)
theorem t32_26 (n : Nat) : gis Tryd.prog X (tab X.sh [] []) 32 n 40 Tryd.f32 [.int .u8 26] (.n 3 (.e)) = .done (.agg [.str ({ data := { toList := [OfNat.ofNat 108, OfNat.ofNat 97, OfNat.ofNat 110, OfNat.ofNat 100, OfNat.ofNat 122] } }), .str ({ data := { toList := [OfNat.ofNat 114, OfNat.ofNat 116] } })]) := by kernel_rfl
theorem s32_26 (n : Nat) (hn : 40 ≤ n) : iso Tryd.prog X (n + 1) 32 [.int .u8 26] = some (.agg [.str (mnS 26), .str (opS 26)]) := gis_sound hn (tab_le all_nil all_nil) fd32 (by rfl) (t32_26 n) (by simp only [Holds]; rfl)
theorem t32_27 (n : Nat) : gis Tryd.prog X (tab X.sh [] []) 32 n 40 Tryd.f32 [.int .u8 27] (.n 3 (.e)) = .done (.agg [.str ({ data := { toList := [OfNat.ofNat 108, OfNat.ofNat 97, OfNat.ofNat 110, OfNat.ofNat 100, OfNat.ofNat 110] } }), .str ({ data := { toList := [OfNat.ofNat 114, OfNat.ofNat 116] } })]) := by kernel_rfl
theorem s32_27 (n : Nat) (hn : 40 ≤ n) : iso Tryd.prog X (n + 1) 32 [.int .u8 27] = some (.agg [.str (mnS 27), .str (opS 27)]) := gis_sound hn (tab_le all_nil all_nil) fd32 (by rfl) (t32_27 n) (by simp only [Holds]; rfl)
theorem t32_28 (n : Nat) : gis Tryd.prog X (tab X.sh [] []) 32 n 40 Tryd.f32 [.int .u8 28] (.n 3 (.e)) = .done (.agg [.str ({ data := { toList := [OfNat.ofNat 102, OfNat.ofNat 114, OfNat.ofNat 97, OfNat.ofNat 109, OfNat.ofNat 101] } }), .str ({ data := { toList := [OfNat.ofNat 107, OfNat.ofNat 107] } })]) := by kernel_rfl
theorem s32_28 (n : Nat) (hn : 40 ≤ n) : iso Tryd.prog X (n + 1) 32 [.int .u8 28] = some (.agg [.str (mnS 28), .str (opS 28)]) := gis_sound hn (tab_le all_nil all_nil) fd32 (by rfl) (t32_28 n) (by simp only [Holds]; rfl)
theorem t32_29 (n : Nat) : gis Tryd.prog X (tab X.sh [] []) 32 n 40 Tryd.f32 [.int .u8 29] (.n 3 (.e)) = .done (.agg [.str ({ data := { toList := [OfNat.ofNat 117, OfNat.ofNat 110, OfNat.ofNat 102, OfNat.ofNat 114, OfNat.ofNat 97, OfNat.ofNat 109, OfNat.ofNat 101] } }), .str ({ data := { toList := [OfNat.ofNat 107, OfNat.ofNat 107] } })]) := by kernel_rfl
theorem s32_29 (n : Nat) (hn : 40 ≤ n) : iso Tryd.prog X (n + 1) 32 [.int .u8 29] = some (.agg [.str (mnS 29), .str (opS 29)]) := gis_sound hn (tab_le all_nil all_nil) fd32 (by rfl) (t32_29 n) (by simp only [Holds]; rfl)
theorem t32_30 (n : Nat) : gis Tryd.prog X (tab X.sh [] []) 32 n 40 Tryd.f32 [.int .u8 30] (.n 3 (.e)) = .done (.agg [.str ({ data := { toList := [OfNat.ofNat 99, OfNat.ofNat 97, OfNat.ofNat 108, OfNat.ofNat 108] } }), .str ({ data := { toList := [OfNat.ofNat 116] } })]) := by kernel_rfl
theorem s32_30 (n : Nat) (hn : 40 ≤ n) : iso Tryd.prog X (n + 1) 32 [.int .u8 30] = some (.agg [.str (mnS 30), .str (opS 30)]) := gis_sound hn (tab_le all_nil all_nil) fd32 (by rfl) (t32_30 n) (by simp only [Holds]; rfl)
theorem t32_31 (n : Nat) : gis Tryd.prog X (tab X.sh [] []) 32 n 40 Tryd.f32 [.int .u8 31] (.n 3 (.e)) = .done (.agg [.str ({ data := { toList := [OfNat.ofNat 117, OfNat.ofNat 110, OfNat.ofNat 99, OfNat.ofNat 97, OfNat.ofNat 108, OfNat.ofNat 108] } }), .str ({ data := { toList := [OfNat.ofNat 116] } })]) := by kernel_rfl
theorem s32_31 (n : Nat) (hn : 40 ≤ n) : iso Tryd.prog X (n + 1) 32 [.int .u8 31] = some (.agg [.str (mnS 31), .str (opS 31)]) := gis_sound hn (tab_le all_nil all_nil) fd32 (by rfl) (t32_31 n) (by simp only [Holds]; rfl)
theorem t32_32 (n : Nat) : gis Tryd.prog X (tab X.sh [] []) 32 n 40 Tryd.f32 [.int .u8 32] (.n 3 (.e)) = .done (.agg [.str ({ data := { toList := [OfNat.ofNat 115, OfNat.ofNat 116, OfNat.ofNat 97, OfNat.ofNat 114, OfNat.ofNat 116] } }), .str ({ data := { toList := [OfNat.ofNat 116] } })]) := by kernel_rfl
theorem s32_32 (n : Nat) (hn : 40 ≤ n) : iso Tryd.prog X (n + 1) 32 [.int .u8 32] = some (.agg [.str (mnS 32), .str (opS 32)]) := gis_sound hn (tab_le all_nil all_nil) fd32 (by rfl) (t32_32 n) (by simp only [Holds]; rfl)
theorem t32_33 (n : Nat) : gis Tryd.prog X (tab X.sh [] []) 32 n 40 Tryd.f32 [.int .u8 33] (.n 3 (.e)) = .done (.agg [.str ({ data := { toList := [OfNat.ofNat 101, OfNat.ofNat 110, OfNat.ofNat 100] } }), .str ({ data := { toList := [OfNat.ofNat 116] } })]) := by kernel_rfl
theorem s32_33 (n : Nat) (hn : 40 ≤ n) : iso Tryd.prog X (n + 1) 32 [.int .u8 33] = some (.agg [.str (mnS 33), .str (opS 33)]) := gis_sound hn (tab_le all_nil all_nil) fd32 (by rfl) (t32_33 n) (by simp only [Holds]; rfl)
theorem t32_34 (n : Nat) : gis Tryd.prog X (tab X.sh [] []) 32 n 40 Tryd.f32 [.int .u8 34] (.n 3 (.e)) = .done (.agg [.str ({ data := { toList := [OfNat.ofNat 104, OfNat.ofNat 97, OfNat.ofNat 108, OfNat.ofNat 116] } }), .str ({ data := { toList := [] } })]) := by kernel_rfl
theorem s32_34 (n : Nat) (hn : 40 ≤ n) : iso Tryd.prog X (n + 1) 32 [.int .u8 34] = some (.agg [.str (mnS 34), .str (opS 34)]) := gis_sound hn (tab_le all_nil all_nil) fd32 (by rfl) (t32_34 n) (by simp only [Holds]; rfl)
theorem s32 (n : Nat) (hn : 41 ≤ n) : IsoS Tryd.prog X n (32, h32) := fun l r h => by
  simp only [h32] at h
  split at h
  · rename_i k
    split at h
    · rename_i hk
      cases h
      obtain ⟨n, rfl⟩ : ∃ m, n = m + 1 := ⟨n - 1, by omega⟩
      have hn' : 40 ≤ n := by omega
      rcases (by omega : k = 0 ∨ k = 1 ∨ k = 2 ∨ k = 3 ∨ k = 4 ∨ k = 5 ∨ k = 6 ∨ k = 7 ∨ k = 8 ∨ k = 9 ∨ k = 10 ∨ k = 11 ∨ k = 12 ∨ k = 13 ∨ k = 14 ∨ k = 15 ∨ k = 16 ∨ k = 17 ∨ k = 18 ∨ k = 19 ∨ k = 20 ∨ k = 21 ∨ k = 22 ∨ k = 23 ∨ k = 24 ∨ k = 25 ∨ k = 26 ∨ k = 27 ∨ k = 28 ∨ k = 29 ∨ k = 30 ∨ k = 31 ∨ k = 32 ∨ k = 33 ∨ k = 34) with rfl | rfl | rfl | rfl | rfl | rfl | rfl | rfl | rfl | rfl | rfl | rfl | rfl | rfl | rfl | rfl | rfl | rfl | rfl | rfl | rfl | rfl | rfl | rfl | rfl | rfl | rfl | rfl | rfl | rfl | rfl | rfl | rfl | rfl | rfl
      · exact s32_0 n hn'
      · exact s32_1 n hn'
      · exact s32_2 n hn'
      · exact s32_3 n hn'
      · exact s32_4 n hn'
      · exact s32_5 n hn'
      · exact s32_6 n hn'
      · exact s32_7 n hn'
      · exact s32_8 n hn'
      · exact s32_9 n hn'
      · exact s32_10 n hn'
      · exact s32_11 n hn'
      · exact s32_12 n hn'
      · exact s32_13 n hn'
      · exact s32_14 n hn'
      · exact s32_15 n hn'
      · exact s32_16 n hn'
      · exact s32_17 n hn'
      · exact s32_18 n hn'
      · exact s32_19 n hn'
      · exact s32_20 n hn'
      · exact s32_21 n hn'
      · exact s32_22 n hn'
      · exact s32_23 n hn'
      · exact s32_24 n hn'
      · exact s32_25 n hn'
      · exact s32_26 n hn'
      · exact s32_27 n hn'
      · exact s32_28 n hn'
      · exact s32_29 n hn'
      · exact s32_30 n hn'
      · exact s32_31 n hn'
      · exact s32_32 n hn'
      · exact s32_33 n hn'
      · exact s32_34 n hn'
    · cases h
  · cases h
theorem cls110 (x : Int) : clsOk 110 x = true := by unfold clsOk; simp
theorem t13_0 (n : Nat) (a b c d : Int) : gis Tryd.prog X (tab X.sh [(33, h33), (32, h32)] []) 13 n 40 Tryd.f13 [.agg [.int .u8 0, .int .i64 a, .int .i64 b, .int .i64 c, .int .i64 d]] (.n 9 (.u (.n 6 (.s (.e) (.n 6 (.s (.e) (.n 6 (.s (.e) (.n 6 (.s (.e) (.n 7 (.e)))))))))))) = .ask (a != 0) (.done (.bool (false))) (.ask (b != 0) (.done (.bool (false))) (.ask (c != 0) (.done (.bool (false))) (.ask (d != 0) (.done (.bool (false))) (.done (.bool (true)))))) := by kernel_rfl
theorem v13_0 (a b c d : Int) : validB 0 a b c d = ((a == 0) && ((b == 0) && ((c == 0) && ((d == 0) && dif 0 a b c)))) := by kernel_rfl
theorem s13_0 (n : Nat) (hn : 42 ≤ n) (a b c d : Int) : iso Tryd.prog X (n + 1) 13 [.agg [.int .u8 0, .int .i64 a, .int .i64 b, .int .i64 c, .int .i64 d]] = some (.bool (validB 0 a b c d)) := by
  refine gis_sound (by omega) (tab_le (all_cons (s33 n (by omega)) (all_cons (s32 n (by omega)) all_nil)) all_nil) fd13 (by rfl) (t13_0 n a b c d) ?_
  rw [v13_0]
  simp only [Holds, dif, PV.bool.injEq]
  simp
  try first | grind [cls110] | (cases h0 : (a == 0) <;> cases h1 : (b == 0) <;> cases h2 : (c == 0) <;> cases h3 : (d == 0) <;> simp_all <;> grind)
theorem t13_1 (n : Nat) (a b c d : Int) : gis Tryd.prog X (tab X.sh [(33, h33), (32, h32)] []) 13 n 40 Tryd.f13 [.agg [.int .u8 1, .int .i64 a, .int .i64 b, .int .i64 c, .int .i64 d]] (.n 9 (.u (.n 5 (.s (.n 7 (.s (.n 8 (.s (.e) (.n 6 (.s (.e) (.n 5 (.s (.e) (.e))))))) (.e))) (.e))))) = .ask (clsOk 114 a) (.ask (clsOk 114 b) (.ask (c != 0) (.done (.bool (false))) (.ask (d != 0) (.done (.bool (false))) (.ask (a != b) (.done (.bool (true))) (.done (.bool (false)))))) (.done (.bool (false)))) (.done (.bool (false))) := by kernel_rfl
theorem v13_1 (a b c d : Int) : validB 1 a b c d = (clsOk 114 a && (clsOk 114 b && ((c == 0) && ((d == 0) && dif 1 a b c)))) := by kernel_rfl
theorem s13_1 (n : Nat) (hn : 42 ≤ n) (a b c d : Int) : iso Tryd.prog X (n + 1) 13 [.agg [.int .u8 1, .int .i64 a, .int .i64 b, .int .i64 c, .int .i64 d]] = some (.bool (validB 1 a b c d)) := by
  refine gis_sound (by omega) (tab_le (all_cons (s33 n (by omega)) (all_cons (s32 n (by omega)) all_nil)) all_nil) fd13 (by rfl) (t13_1 n a b c d) ?_
  rw [v13_1]
  simp only [Holds, dif, PV.bool.injEq]
  simp
  try first | grind [cls110] | (cases h0 : clsOk 114 a <;> cases h1 : clsOk 114 b <;> cases h2 : (c == 0) <;> cases h3 : (d == 0) <;> simp_all <;> grind)
theorem t13_2 (n : Nat) (a b c d : Int) : gis Tryd.prog X (tab X.sh [(33, h33), (32, h32)] []) 13 n 40 Tryd.f13 [.agg [.int .u8 2, .int .i64 a, .int .i64 b, .int .i64 c, .int .i64 d]] (.n 9 (.u (.n 5 (.s (.n 7 (.s (.n 8 (.s (.e) (.n 6 (.s (.e) (.n 6 (.s (.e) (.e))))))) (.e))) (.e))))) = .ask (clsOk 114 a) (.ask (clsOk 114 b) (.ask (c != 0) (.done (.bool (false))) (.ask (d != 0) (.done (.bool (false))) (.ask (a != b) (.done (.bool (true))) (.done (.bool (false)))))) (.done (.bool (false)))) (.done (.bool (false))) := by kernel_rfl
theorem v13_2 (a b c d : Int) : validB 2 a b c d = (clsOk 114 a && (clsOk 114 b && ((c == 0) && ((d == 0) && dif 2 a b c)))) := by kernel_rfl
theorem s13_2 (n : Nat) (hn : 42 ≤ n) (a b c d : Int) : iso Tryd.prog X (n + 1) 13 [.agg [.int .u8 2, .int .i64 a, .int .i64 b, .int .i64 c, .int .i64 d]] = some (.bool (validB 2 a b c d)) := by
  refine gis_sound (by omega) (tab_le (all_cons (s33 n (by omega)) (all_cons (s32 n (by omega)) all_nil)) all_nil) fd13 (by rfl) (t13_2 n a b c d) ?_
  rw [v13_2]
  simp only [Holds, dif, PV.bool.injEq]
  simp
  try first | grind [cls110] | (cases h0 : clsOk 114 a <;> cases h1 : clsOk 114 b <;> cases h2 : (c == 0) <;> cases h3 : (d == 0) <;> simp_all <;> grind)
theorem t13_3 (n : Nat) (a b c d : Int) : gis Tryd.prog X (tab X.sh [(33, h33), (32, h32)] []) 13 n 40 Tryd.f13 [.agg [.int .u8 3, .int .i64 a, .int .i64 b, .int .i64 c, .int .i64 d]] (.n 9 (.u (.n 5 (.s (.n 7 (.s (.n 8 (.s (.e) (.n 6 (.s (.e) (.n 7 (.s (.e) (.e))))))) (.e))) (.e))))) = .ask (clsOk 114 a) (.ask (clsOk 114 b) (.ask (c != 0) (.done (.bool (false))) (.ask (d != 0) (.done (.bool (false))) (.ask (a != b) (.done (.bool (true))) (.done (.bool (false)))))) (.done (.bool (false)))) (.done (.bool (false))) := by kernel_rfl
theorem v13_3 (a b c d : Int) : validB 3 a b c d = (clsOk 114 a && (clsOk 114 b && ((c == 0) && ((d == 0) && dif 3 a b c)))) := by kernel_rfl
theorem s13_3 (n : Nat) (hn : 42 ≤ n) (a b c d : Int) : iso Tryd.prog X (n + 1) 13 [.agg [.int .u8 3, .int .i64 a, .int .i64 b, .int .i64 c, .int .i64 d]] = some (.bool (validB 3 a b c d)) := by
  refine gis_sound (by omega) (tab_le (all_cons (s33 n (by omega)) (all_cons (s32 n (by omega)) all_nil)) all_nil) fd13 (by rfl) (t13_3 n a b c d) ?_
  rw [v13_3]
  simp only [Holds, dif, PV.bool.injEq]
  simp
  try first | grind [cls110] | (cases h0 : clsOk 114 a <;> cases h1 : clsOk 114 b <;> cases h2 : (c == 0) <;> cases h3 : (d == 0) <;> simp_all <;> grind)
theorem t13_4 (n : Nat) (a b c d : Int) : gis Tryd.prog X (tab X.sh [(33, h33), (32, h32)] []) 13 n 40 Tryd.f13 [.agg [.int .u8 4, .int .i64 a, .int .i64 b, .int .i64 c, .int .i64 d]] (.n 9 (.u (.n 5 (.s (.n 16 (.s (.e) (.n 6 (.s (.e) (.n 7 (.e)))))) (.e))))) = .ask (clsOk 114 a) (.ask (c != 0) (.done (.bool (false))) (.ask (d != 0) (.done (.bool (false))) (.done (.bool (true))))) (.done (.bool (false))) := by kernel_rfl
theorem v13_4 (a b c d : Int) : validB 4 a b c d = (clsOk 114 a && (clsOk 110 b && ((c == 0) && ((d == 0) && dif 4 a b c)))) := by kernel_rfl
theorem s13_4 (n : Nat) (hn : 42 ≤ n) (a b c d : Int) : iso Tryd.prog X (n + 1) 13 [.agg [.int .u8 4, .int .i64 a, .int .i64 b, .int .i64 c, .int .i64 d]] = some (.bool (validB 4 a b c d)) := by
  refine gis_sound (by omega) (tab_le (all_cons (s33 n (by omega)) (all_cons (s32 n (by omega)) all_nil)) all_nil) fd13 (by rfl) (t13_4 n a b c d) ?_
  rw [v13_4]
  simp only [Holds, dif, PV.bool.injEq]
  simp
  try first | grind [cls110] | (cases h0 : clsOk 114 a <;> cases h1 : clsOk 110 b <;> cases h2 : (c == 0) <;> cases h3 : (d == 0) <;> simp_all <;> grind)
theorem t13_5 (n : Nat) (a b c d : Int) : gis Tryd.prog X (tab X.sh [(33, h33), (32, h32)] []) 13 n 40 Tryd.f13 [.agg [.int .u8 5, .int .i64 a, .int .i64 b, .int .i64 c, .int .i64 d]] (.n 9 (.u (.n 5 (.s (.n 16 (.s (.e) (.n 6 (.s (.e) (.n 7 (.e)))))) (.e))))) = .ask (clsOk 114 a) (.ask (c != 0) (.done (.bool (false))) (.ask (d != 0) (.done (.bool (false))) (.done (.bool (true))))) (.done (.bool (false))) := by kernel_rfl
theorem v13_5 (a b c d : Int) : validB 5 a b c d = (clsOk 114 a && (clsOk 110 b && ((c == 0) && ((d == 0) && dif 5 a b c)))) := by kernel_rfl
theorem s13_5 (n : Nat) (hn : 42 ≤ n) (a b c d : Int) : iso Tryd.prog X (n + 1) 13 [.agg [.int .u8 5, .int .i64 a, .int .i64 b, .int .i64 c, .int .i64 d]] = some (.bool (validB 5 a b c d)) := by
  refine gis_sound (by omega) (tab_le (all_cons (s33 n (by omega)) (all_cons (s32 n (by omega)) all_nil)) all_nil) fd13 (by rfl) (t13_5 n a b c d) ?_
  rw [v13_5]
  simp only [Holds, dif, PV.bool.injEq]
  simp
  try first | grind [cls110] | (cases h0 : clsOk 114 a <;> cases h1 : clsOk 110 b <;> cases h2 : (c == 0) <;> cases h3 : (d == 0) <;> simp_all <;> grind)
theorem t13_6 (n : Nat) (a b c d : Int) : gis Tryd.prog X (tab X.sh [(33, h33), (32, h32)] []) 13 n 40 Tryd.f13 [.agg [.int .u8 6, .int .i64 a, .int .i64 b, .int .i64 c, .int .i64 d]] (.n 9 (.u (.n 5 (.s (.n 16 (.s (.e) (.n 6 (.s (.e) (.n 7 (.e)))))) (.e))))) = .ask (clsOk 114 a) (.ask (c != 0) (.done (.bool (false))) (.ask (d != 0) (.done (.bool (false))) (.done (.bool (true))))) (.done (.bool (false))) := by kernel_rfl
theorem v13_6 (a b c d : Int) : validB 6 a b c d = (clsOk 114 a && (clsOk 110 b && ((c == 0) && ((d == 0) && dif 6 a b c)))) := by kernel_rfl
theorem s13_6 (n : Nat) (hn : 42 ≤ n) (a b c d : Int) : iso Tryd.prog X (n + 1) 13 [.agg [.int .u8 6, .int .i64 a, .int .i64 b, .int .i64 c, .int .i64 d]] = some (.bool (validB 6 a b c d)) := by
  refine gis_sound (by omega) (tab_le (all_cons (s33 n (by omega)) (all_cons (s32 n (by omega)) all_nil)) all_nil) fd13 (by rfl) (t13_6 n a b c d) ?_
  rw [v13_6]
  simp only [Holds, dif, PV.bool.injEq]
  simp
  try first | grind [cls110] | (cases h0 : clsOk 114 a <;> cases h1 : clsOk 110 b <;> cases h2 : (c == 0) <;> cases h3 : (d == 0) <;> simp_all <;> grind)
theorem t13_7 (n : Nat) (a b c d : Int) : gis Tryd.prog X (tab X.sh [(33, h33), (32, h32)] []) 13 n 40 Tryd.f13 [.agg [.int .u8 7, .int .i64 a, .int .i64 b, .int .i64 c, .int .i64 d]] (.n 9 (.u (.n 5 (.s (.n 7 (.s (.n 8 (.s (.e) (.n 6 (.s (.e) (.n 7 (.e)))))) (.e))) (.e))))) = .ask (clsOk 114 a) (.ask (clsOk 114 b) (.ask (c != 0) (.done (.bool (false))) (.ask (d != 0) (.done (.bool (false))) (.done (.bool (true))))) (.done (.bool (false)))) (.done (.bool (false))) := by kernel_rfl
theorem v13_7 (a b c d : Int) : validB 7 a b c d = (clsOk 114 a && (clsOk 114 b && ((c == 0) && ((d == 0) && dif 7 a b c)))) := by kernel_rfl
theorem s13_7 (n : Nat) (hn : 42 ≤ n) (a b c d : Int) : iso Tryd.prog X (n + 1) 13 [.agg [.int .u8 7, .int .i64 a, .int .i64 b, .int .i64 c, .int .i64 d]] = some (.bool (validB 7 a b c d)) := by
  refine gis_sound (by omega) (tab_le (all_cons (s33 n (by omega)) (all_cons (s32 n (by omega)) all_nil)) all_nil) fd13 (by rfl) (t13_7 n a b c d) ?_
  rw [v13_7]
  simp only [Holds, dif, PV.bool.injEq]
  simp
  try first | grind [cls110] | (cases h0 : clsOk 114 a <;> cases h1 : clsOk 114 b <;> cases h2 : (c == 0) <;> cases h3 : (d == 0) <;> simp_all <;> grind)
theorem t13_8 (n : Nat) (a b c d : Int) : gis Tryd.prog X (tab X.sh [(33, h33), (32, h32)] []) 13 n 40 Tryd.f13 [.agg [.int .u8 8, .int .i64 a, .int .i64 b, .int .i64 c, .int .i64 d]] (.n 9 (.u (.n 5 (.s (.n 8 (.s (.e) (.n 6 (.s (.e) (.n 6 (.s (.e) (.n 7 (.e)))))))) (.e))))) = .ask (clsOk 114 a) (.ask (b != 0) (.done (.bool (false))) (.ask (c != 0) (.done (.bool (false))) (.ask (d != 0) (.done (.bool (false))) (.done (.bool (true)))))) (.done (.bool (false))) := by kernel_rfl
theorem v13_8 (a b c d : Int) : validB 8 a b c d = (clsOk 114 a && ((b == 0) && ((c == 0) && ((d == 0) && dif 8 a b c)))) := by kernel_rfl
theorem s13_8 (n : Nat) (hn : 42 ≤ n) (a b c d : Int) : iso Tryd.prog X (n + 1) 13 [.agg [.int .u8 8, .int .i64 a, .int .i64 b, .int .i64 c, .int .i64 d]] = some (.bool (validB 8 a b c d)) := by
  refine gis_sound (by omega) (tab_le (all_cons (s33 n (by omega)) (all_cons (s32 n (by omega)) all_nil)) all_nil) fd13 (by rfl) (t13_8 n a b c d) ?_
  rw [v13_8]
  simp only [Holds, dif, PV.bool.injEq]
  simp
  try first | grind [cls110] | (cases h0 : clsOk 114 a <;> cases h1 : (b == 0) <;> cases h2 : (c == 0) <;> cases h3 : (d == 0) <;> simp_all <;> grind)
theorem t13_9 (n : Nat) (a b c d : Int) : gis Tryd.prog X (tab X.sh [(33, h33), (32, h32)] []) 13 n 40 Tryd.f13 [.agg [.int .u8 9, .int .i64 a, .int .i64 b, .int .i64 c, .int .i64 d]] (.n 9 (.u (.n 5 (.s (.n 7 (.s (.n 7 (.s (.n 7 (.s (.n 11 (.s (.n 2 (.s (.e) (.e))) (.e))) (.e))) (.e))) (.e))) (.e))))) = .ask (clsOk 114 a) (.ask (clsOk 114 b) (.ask (clsOk 114 c) (.ask (clsOk 111 d) (.ask (a != b) (.ask (a != c) (.done (.bool (true))) (.done (.bool (false)))) (.done (.bool (false)))) (.done (.bool (false)))) (.done (.bool (false)))) (.done (.bool (false)))) (.done (.bool (false))) := by kernel_rfl
theorem v13_9 (a b c d : Int) : validB 9 a b c d = (clsOk 114 a && (clsOk 114 b && (clsOk 114 c && (clsOk 111 d && dif 9 a b c)))) := by kernel_rfl
theorem s13_9 (n : Nat) (hn : 42 ≤ n) (a b c d : Int) : iso Tryd.prog X (n + 1) 13 [.agg [.int .u8 9, .int .i64 a, .int .i64 b, .int .i64 c, .int .i64 d]] = some (.bool (validB 9 a b c d)) := by
  refine gis_sound (by omega) (tab_le (all_cons (s33 n (by omega)) (all_cons (s32 n (by omega)) all_nil)) all_nil) fd13 (by rfl) (t13_9 n a b c d) ?_
  rw [v13_9]
  simp only [Holds, dif, PV.bool.injEq]
  simp
  try first | grind [cls110] | (cases h0 : clsOk 114 a <;> cases h1 : clsOk 114 b <;> cases h2 : clsOk 114 c <;> cases h3 : clsOk 111 d <;> simp_all <;> grind)
theorem t13_10 (n : Nat) (a b c d : Int) : gis Tryd.prog X (tab X.sh [(33, h33), (32, h32)] []) 13 n 40 Tryd.f13 [.agg [.int .u8 10, .int .i64 a, .int .i64 b, .int .i64 c, .int .i64 d]] (.n 9 (.u (.n 5 (.s (.n 7 (.s (.n 8 (.s (.e) (.n 6 (.s (.e) (.n 7 (.e)))))) (.e))) (.e))))) = .ask (clsOk 114 a) (.ask (clsOk 107 b) (.ask (c != 0) (.done (.bool (false))) (.ask (d != 0) (.done (.bool (false))) (.done (.bool (true))))) (.done (.bool (false)))) (.done (.bool (false))) := by kernel_rfl
theorem v13_10 (a b c d : Int) : validB 10 a b c d = (clsOk 114 a && (clsOk 107 b && ((c == 0) && ((d == 0) && dif 10 a b c)))) := by kernel_rfl
theorem s13_10 (n : Nat) (hn : 42 ≤ n) (a b c d : Int) : iso Tryd.prog X (n + 1) 13 [.agg [.int .u8 10, .int .i64 a, .int .i64 b, .int .i64 c, .int .i64 d]] = some (.bool (validB 10 a b c d)) := by
  refine gis_sound (by omega) (tab_le (all_cons (s33 n (by omega)) (all_cons (s32 n (by omega)) all_nil)) all_nil) fd13 (by rfl) (t13_10 n a b c d) ?_
  rw [v13_10]
  simp only [Holds, dif, PV.bool.injEq]
  simp
  try first | grind [cls110] | (cases h0 : clsOk 114 a <;> cases h1 : clsOk 107 b <;> cases h2 : (c == 0) <;> cases h3 : (d == 0) <;> simp_all <;> grind)
theorem t13_11 (n : Nat) (a b c d : Int) : gis Tryd.prog X (tab X.sh [(33, h33), (32, h32)] []) 13 n 40 Tryd.f13 [.agg [.int .u8 11, .int .i64 a, .int .i64 b, .int .i64 c, .int .i64 d]] (.n 9 (.u (.n 5 (.s (.n 7 (.s (.n 7 (.s (.n 7 (.s (.n 10 (.s (.e) (.e))) (.e))) (.e))) (.e))) (.e))))) = .ask (clsOk 114 a) (.ask (clsOk 114 b) (.ask (clsOk 107 c) (.ask (clsOk 107 d) (.ask (a != b) (.done (.bool (true))) (.done (.bool (false)))) (.done (.bool (false)))) (.done (.bool (false)))) (.done (.bool (false)))) (.done (.bool (false))) := by kernel_rfl
theorem v13_11 (a b c d : Int) : validB 11 a b c d = (clsOk 114 a && (clsOk 114 b && (clsOk 107 c && (clsOk 107 d && dif 11 a b c)))) := by kernel_rfl
theorem s13_11 (n : Nat) (hn : 42 ≤ n) (a b c d : Int) : iso Tryd.prog X (n + 1) 13 [.agg [.int .u8 11, .int .i64 a, .int .i64 b, .int .i64 c, .int .i64 d]] = some (.bool (validB 11 a b c d)) := by
  refine gis_sound (by omega) (tab_le (all_cons (s33 n (by omega)) (all_cons (s32 n (by omega)) all_nil)) all_nil) fd13 (by rfl) (t13_11 n a b c d) ?_
  rw [v13_11]
  simp only [Holds, dif, PV.bool.injEq]
  simp
  try first | grind [cls110] | (cases h0 : clsOk 114 a <;> cases h1 : clsOk 114 b <;> cases h2 : clsOk 107 c <;> cases h3 : clsOk 107 d <;> simp_all <;> grind)
theorem t13_12 (n : Nat) (a b c d : Int) : gis Tryd.prog X (tab X.sh [(33, h33), (32, h32)] []) 13 n 40 Tryd.f13 [.agg [.int .u8 12, .int .i64 a, .int .i64 b, .int .i64 c, .int .i64 d]] (.n 9 (.u (.n 5 (.s (.n 7 (.s (.n 8 (.s (.e) (.n 6 (.s (.e) (.n 7 (.e)))))) (.e))) (.e))))) = .ask (clsOk 114 a) (.ask (clsOk 107 b) (.ask (c != 0) (.done (.bool (false))) (.ask (d != 0) (.done (.bool (false))) (.done (.bool (true))))) (.done (.bool (false)))) (.done (.bool (false))) := by kernel_rfl
theorem v13_12 (a b c d : Int) : validB 12 a b c d = (clsOk 114 a && (clsOk 107 b && ((c == 0) && ((d == 0) && dif 12 a b c)))) := by kernel_rfl
theorem s13_12 (n : Nat) (hn : 42 ≤ n) (a b c d : Int) : iso Tryd.prog X (n + 1) 13 [.agg [.int .u8 12, .int .i64 a, .int .i64 b, .int .i64 c, .int .i64 d]] = some (.bool (validB 12 a b c d)) := by
  refine gis_sound (by omega) (tab_le (all_cons (s33 n (by omega)) (all_cons (s32 n (by omega)) all_nil)) all_nil) fd13 (by rfl) (t13_12 n a b c d) ?_
  rw [v13_12]
  simp only [Holds, dif, PV.bool.injEq]
  simp
  try first | grind [cls110] | (cases h0 : clsOk 114 a <;> cases h1 : clsOk 107 b <;> cases h2 : (c == 0) <;> cases h3 : (d == 0) <;> simp_all <;> grind)
theorem t13_13 (n : Nat) (a b c d : Int) : gis Tryd.prog X (tab X.sh [(33, h33), (32, h32)] []) 13 n 40 Tryd.f13 [.agg [.int .u8 13, .int .i64 a, .int .i64 b, .int .i64 c, .int .i64 d]] (.n 9 (.u (.n 5 (.s (.n 7 (.s (.n 8 (.s (.e) (.n 6 (.s (.e) (.n 7 (.e)))))) (.e))) (.e))))) = .ask (clsOk 114 a) (.ask (clsOk 107 b) (.ask (c != 0) (.done (.bool (false))) (.ask (d != 0) (.done (.bool (false))) (.done (.bool (true))))) (.done (.bool (false)))) (.done (.bool (false))) := by kernel_rfl
theorem v13_13 (a b c d : Int) : validB 13 a b c d = (clsOk 114 a && (clsOk 107 b && ((c == 0) && ((d == 0) && dif 13 a b c)))) := by kernel_rfl
theorem s13_13 (n : Nat) (hn : 42 ≤ n) (a b c d : Int) : iso Tryd.prog X (n + 1) 13 [.agg [.int .u8 13, .int .i64 a, .int .i64 b, .int .i64 c, .int .i64 d]] = some (.bool (validB 13 a b c d)) := by
  refine gis_sound (by omega) (tab_le (all_cons (s33 n (by omega)) (all_cons (s32 n (by omega)) all_nil)) all_nil) fd13 (by rfl) (t13_13 n a b c d) ?_
  rw [v13_13]
  simp only [Holds, dif, PV.bool.injEq]
  simp
  try first | grind [cls110] | (cases h0 : clsOk 114 a <;> cases h1 : clsOk 107 b <;> cases h2 : (c == 0) <;> cases h3 : (d == 0) <;> simp_all <;> grind)
theorem t13_14 (n : Nat) (a b c d : Int) : gis Tryd.prog X (tab X.sh [(33, h33), (32, h32)] []) 13 n 40 Tryd.f13 [.agg [.int .u8 14, .int .i64 a, .int .i64 b, .int .i64 c, .int .i64 d]] (.n 9 (.u (.n 5 (.s (.n 7 (.s (.n 8 (.s (.e) (.n 6 (.s (.e) (.n 7 (.e)))))) (.e))) (.e))))) = .ask (clsOk 114 a) (.ask (clsOk 107 b) (.ask (c != 0) (.done (.bool (false))) (.ask (d != 0) (.done (.bool (false))) (.done (.bool (true))))) (.done (.bool (false)))) (.done (.bool (false))) := by kernel_rfl
theorem v13_14 (a b c d : Int) : validB 14 a b c d = (clsOk 114 a && (clsOk 107 b && ((c == 0) && ((d == 0) && dif 14 a b c)))) := by kernel_rfl
theorem s13_14 (n : Nat) (hn : 42 ≤ n) (a b c d : Int) : iso Tryd.prog X (n + 1) 13 [.agg [.int .u8 14, .int .i64 a, .int .i64 b, .int .i64 c, .int .i64 d]] = some (.bool (validB 14 a b c d)) := by
  refine gis_sound (by omega) (tab_le (all_cons (s33 n (by omega)) (all_cons (s32 n (by omega)) all_nil)) all_nil) fd13 (by rfl) (t13_14 n a b c d) ?_
  rw [v13_14]
  simp only [Holds, dif, PV.bool.injEq]
  simp
  try first | grind [cls110] | (cases h0 : clsOk 114 a <;> cases h1 : clsOk 107 b <;> cases h2 : (c == 0) <;> cases h3 : (d == 0) <;> simp_all <;> grind)
theorem t13_15 (n : Nat) (a b c d : Int) : gis Tryd.prog X (tab X.sh [(33, h33), (32, h32)] []) 13 n 40 Tryd.f13 [.agg [.int .u8 15, .int .i64 a, .int .i64 b, .int .i64 c, .int .i64 d]] (.n 9 (.u (.n 5 (.s (.n 7 (.s (.n 8 (.s (.e) (.n 6 (.s (.e) (.n 7 (.e)))))) (.e))) (.e))))) = .ask (clsOk 114 a) (.ask (clsOk 107 b) (.ask (c != 0) (.done (.bool (false))) (.ask (d != 0) (.done (.bool (false))) (.done (.bool (true))))) (.done (.bool (false)))) (.done (.bool (false))) := by kernel_rfl
theorem v13_15 (a b c d : Int) : validB 15 a b c d = (clsOk 114 a && (clsOk 107 b && ((c == 0) && ((d == 0) && dif 15 a b c)))) := by kernel_rfl
theorem s13_15 (n : Nat) (hn : 42 ≤ n) (a b c d : Int) : iso Tryd.prog X (n + 1) 13 [.agg [.int .u8 15, .int .i64 a, .int .i64 b, .int .i64 c, .int .i64 d]] = some (.bool (validB 15 a b c d)) := by
  refine gis_sound (by omega) (tab_le (all_cons (s33 n (by omega)) (all_cons (s32 n (by omega)) all_nil)) all_nil) fd13 (by rfl) (t13_15 n a b c d) ?_
  rw [v13_15]
  simp only [Holds, dif, PV.bool.injEq]
  simp
  try first | grind [cls110] | (cases h0 : clsOk 114 a <;> cases h1 : clsOk 107 b <;> cases h2 : (c == 0) <;> cases h3 : (d == 0) <;> simp_all <;> grind)
theorem t13_16 (n : Nat) (a b c d : Int) : gis Tryd.prog X (tab X.sh [(33, h33), (32, h32)] []) 13 n 40 Tryd.f13 [.agg [.int .u8 16, .int .i64 a, .int .i64 b, .int .i64 c, .int .i64 d]] (.n 9 (.u (.n 5 (.s (.n 7 (.s (.n 8 (.s (.e) (.n 6 (.s (.e) (.n 7 (.e)))))) (.e))) (.e))))) = .ask (clsOk 107 a) (.ask (clsOk 107 b) (.ask (c != 0) (.done (.bool (false))) (.ask (d != 0) (.done (.bool (false))) (.done (.bool (true))))) (.done (.bool (false)))) (.done (.bool (false))) := by kernel_rfl
theorem v13_16 (a b c d : Int) : validB 16 a b c d = (clsOk 107 a && (clsOk 107 b && ((c == 0) && ((d == 0) && dif 16 a b c)))) := by kernel_rfl
theorem s13_16 (n : Nat) (hn : 42 ≤ n) (a b c d : Int) : iso Tryd.prog X (n + 1) 13 [.agg [.int .u8 16, .int .i64 a, .int .i64 b, .int .i64 c, .int .i64 d]] = some (.bool (validB 16 a b c d)) := by
  refine gis_sound (by omega) (tab_le (all_cons (s33 n (by omega)) (all_cons (s32 n (by omega)) all_nil)) all_nil) fd13 (by rfl) (t13_16 n a b c d) ?_
  rw [v13_16]
  simp only [Holds, dif, PV.bool.injEq]
  simp
  try first | grind [cls110] | (cases h0 : clsOk 107 a <;> cases h1 : clsOk 107 b <;> cases h2 : (c == 0) <;> cases h3 : (d == 0) <;> simp_all <;> grind)
theorem t13_17 (n : Nat) (a b c d : Int) : gis Tryd.prog X (tab X.sh [(33, h33), (32, h32)] []) 13 n 40 Tryd.f13 [.agg [.int .u8 17, .int .i64 a, .int .i64 b, .int .i64 c, .int .i64 d]] (.n 9 (.u (.n 5 (.s (.n 8 (.s (.e) (.n 6 (.s (.e) (.n 6 (.s (.e) (.n 7 (.e)))))))) (.e))))) = .ask (clsOk 114 a) (.ask (b != 0) (.done (.bool (false))) (.ask (c != 0) (.done (.bool (false))) (.ask (d != 0) (.done (.bool (false))) (.done (.bool (true)))))) (.done (.bool (false))) := by kernel_rfl
theorem v13_17 (a b c d : Int) : validB 17 a b c d = (clsOk 114 a && ((b == 0) && ((c == 0) && ((d == 0) && dif 17 a b c)))) := by kernel_rfl
theorem s13_17 (n : Nat) (hn : 42 ≤ n) (a b c d : Int) : iso Tryd.prog X (n + 1) 13 [.agg [.int .u8 17, .int .i64 a, .int .i64 b, .int .i64 c, .int .i64 d]] = some (.bool (validB 17 a b c d)) := by
  refine gis_sound (by omega) (tab_le (all_cons (s33 n (by omega)) (all_cons (s32 n (by omega)) all_nil)) all_nil) fd13 (by rfl) (t13_17 n a b c d) ?_
  rw [v13_17]
  simp only [Holds, dif, PV.bool.injEq]
  simp
  try first | grind [cls110] | (cases h0 : clsOk 114 a <;> cases h1 : (b == 0) <;> cases h2 : (c == 0) <;> cases h3 : (d == 0) <;> simp_all <;> grind)
theorem t13_18 (n : Nat) (a b c d : Int) : gis Tryd.prog X (tab X.sh [(33, h33), (32, h32)] []) 13 n 40 Tryd.f13 [.agg [.int .u8 18, .int .i64 a, .int .i64 b, .int .i64 c, .int .i64 d]] (.n 9 (.u (.n 5 (.s (.n 8 (.s (.e) (.n 6 (.s (.e) (.n 6 (.s (.e) (.n 7 (.e)))))))) (.e))))) = .ask (clsOk 114 a) (.ask (b != 0) (.done (.bool (false))) (.ask (c != 0) (.done (.bool (false))) (.ask (d != 0) (.done (.bool (false))) (.done (.bool (true)))))) (.done (.bool (false))) := by kernel_rfl
theorem v13_18 (a b c d : Int) : validB 18 a b c d = (clsOk 114 a && ((b == 0) && ((c == 0) && ((d == 0) && dif 18 a b c)))) := by kernel_rfl
theorem s13_18 (n : Nat) (hn : 42 ≤ n) (a b c d : Int) : iso Tryd.prog X (n + 1) 13 [.agg [.int .u8 18, .int .i64 a, .int .i64 b, .int .i64 c, .int .i64 d]] = some (.bool (validB 18 a b c d)) := by
  refine gis_sound (by omega) (tab_le (all_cons (s33 n (by omega)) (all_cons (s32 n (by omega)) all_nil)) all_nil) fd13 (by rfl) (t13_18 n a b c d) ?_
  rw [v13_18]
  simp only [Holds, dif, PV.bool.injEq]
  simp
  try first | grind [cls110] | (cases h0 : clsOk 114 a <;> cases h1 : (b == 0) <;> cases h2 : (c == 0) <;> cases h3 : (d == 0) <;> simp_all <;> grind)
theorem t13_19 (n : Nat) (a b c d : Int) : gis Tryd.prog X (tab X.sh [(33, h33), (32, h32)] []) 13 n 40 Tryd.f13 [.agg [.int .u8 19, .int .i64 a, .int .i64 b, .int .i64 c, .int .i64 d]] (.n 9 (.u (.n 5 (.s (.n 8 (.s (.e) (.n 6 (.s (.e) (.n 6 (.s (.e) (.n 7 (.e)))))))) (.e))))) = .ask (clsOk 114 a) (.ask (b != 0) (.done (.bool (false))) (.ask (c != 0) (.done (.bool (false))) (.ask (d != 0) (.done (.bool (false))) (.done (.bool (true)))))) (.done (.bool (false))) := by kernel_rfl
theorem v13_19 (a b c d : Int) : validB 19 a b c d = (clsOk 114 a && ((b == 0) && ((c == 0) && ((d == 0) && dif 19 a b c)))) := by kernel_rfl
theorem s13_19 (n : Nat) (hn : 42 ≤ n) (a b c d : Int) : iso Tryd.prog X (n + 1) 13 [.agg [.int .u8 19, .int .i64 a, .int .i64 b, .int .i64 c, .int .i64 d]] = some (.bool (validB 19 a b c d)) := by
  refine gis_sound (by omega) (tab_le (all_cons (s33 n (by omega)) (all_cons (s32 n (by omega)) all_nil)) all_nil) fd13 (by rfl) (t13_19 n a b c d) ?_
  rw [v13_19]
  simp only [Holds, dif, PV.bool.injEq]
  simp
  try first | grind [cls110] | (cases h0 : clsOk 114 a <;> cases h1 : (b == 0) <;> cases h2 : (c == 0) <;> cases h3 : (d == 0) <;> simp_all <;> grind)
theorem t13_20 (n : Nat) (a b c d : Int) : gis Tryd.prog X (tab X.sh [(33, h33), (32, h32)] []) 13 n 40 Tryd.f13 [.agg [.int .u8 20, .int .i64 a, .int .i64 b, .int .i64 c, .int .i64 d]] (.n 9 (.u (.n 5 (.s (.n 8 (.s (.e) (.n 6 (.s (.e) (.n 6 (.s (.e) (.n 7 (.e)))))))) (.e))))) = .ask (clsOk 114 a) (.ask (b != 0) (.done (.bool (false))) (.ask (c != 0) (.done (.bool (false))) (.ask (d != 0) (.done (.bool (false))) (.done (.bool (true)))))) (.done (.bool (false))) := by kernel_rfl
theorem v13_20 (a b c d : Int) : validB 20 a b c d = (clsOk 114 a && ((b == 0) && ((c == 0) && ((d == 0) && dif 20 a b c)))) := by kernel_rfl
theorem s13_20 (n : Nat) (hn : 42 ≤ n) (a b c d : Int) : iso Tryd.prog X (n + 1) 13 [.agg [.int .u8 20, .int .i64 a, .int .i64 b, .int .i64 c, .int .i64 d]] = some (.bool (validB 20 a b c d)) := by
  refine gis_sound (by omega) (tab_le (all_cons (s33 n (by omega)) (all_cons (s32 n (by omega)) all_nil)) all_nil) fd13 (by rfl) (t13_20 n a b c d) ?_
  rw [v13_20]
  simp only [Holds, dif, PV.bool.injEq]
  simp
  try first | grind [cls110] | (cases h0 : clsOk 114 a <;> cases h1 : (b == 0) <;> cases h2 : (c == 0) <;> cases h3 : (d == 0) <;> simp_all <;> grind)
theorem t13_21 (n : Nat) (a b c d : Int) : gis Tryd.prog X (tab X.sh [(33, h33), (32, h32)] []) 13 n 40 Tryd.f13 [.agg [.int .u8 21, .int .i64 a, .int .i64 b, .int .i64 c, .int .i64 d]] (.n 9 (.u (.n 5 (.s (.n 7 (.s (.n 8 (.s (.e) (.n 6 (.s (.e) (.n 7 (.e)))))) (.e))) (.e))))) = .ask (clsOk 114 a) (.ask (clsOk 101 b) (.ask (c != 0) (.done (.bool (false))) (.ask (d != 0) (.done (.bool (false))) (.done (.bool (true))))) (.done (.bool (false)))) (.done (.bool (false))) := by kernel_rfl
theorem v13_21 (a b c d : Int) : validB 21 a b c d = (clsOk 114 a && (clsOk 101 b && ((c == 0) && ((d == 0) && dif 21 a b c)))) := by kernel_rfl
theorem s13_21 (n : Nat) (hn : 42 ≤ n) (a b c d : Int) : iso Tryd.prog X (n + 1) 13 [.agg [.int .u8 21, .int .i64 a, .int .i64 b, .int .i64 c, .int .i64 d]] = some (.bool (validB 21 a b c d)) := by
  refine gis_sound (by omega) (tab_le (all_cons (s33 n (by omega)) (all_cons (s32 n (by omega)) all_nil)) all_nil) fd13 (by rfl) (t13_21 n a b c d) ?_
  rw [v13_21]
  simp only [Holds, dif, PV.bool.injEq]
  simp
  try first | grind [cls110] | (cases h0 : clsOk 114 a <;> cases h1 : clsOk 101 b <;> cases h2 : (c == 0) <;> cases h3 : (d == 0) <;> simp_all <;> grind)
theorem t13_22 (n : Nat) (a b c d : Int) : gis Tryd.prog X (tab X.sh [(33, h33), (32, h32)] []) 13 n 40 Tryd.f13 [.agg [.int .u8 22, .int .i64 a, .int .i64 b, .int .i64 c, .int .i64 d]] (.n 9 (.u (.n 5 (.s (.n 8 (.s (.e) (.n 6 (.s (.e) (.n 6 (.s (.e) (.n 7 (.e)))))))) (.e))))) = .ask (clsOk 116 a) (.ask (b != 0) (.done (.bool (false))) (.ask (c != 0) (.done (.bool (false))) (.ask (d != 0) (.done (.bool (false))) (.done (.bool (true)))))) (.done (.bool (false))) := by kernel_rfl
theorem v13_22 (a b c d : Int) : validB 22 a b c d = (clsOk 116 a && ((b == 0) && ((c == 0) && ((d == 0) && dif 22 a b c)))) := by kernel_rfl
theorem s13_22 (n : Nat) (hn : 42 ≤ n) (a b c d : Int) : iso Tryd.prog X (n + 1) 13 [.agg [.int .u8 22, .int .i64 a, .int .i64 b, .int .i64 c, .int .i64 d]] = some (.bool (validB 22 a b c d)) := by
  refine gis_sound (by omega) (tab_le (all_cons (s33 n (by omega)) (all_cons (s32 n (by omega)) all_nil)) all_nil) fd13 (by rfl) (t13_22 n a b c d) ?_
  rw [v13_22]
  simp only [Holds, dif, PV.bool.injEq]
  simp
  try first | grind [cls110] | (cases h0 : clsOk 116 a <;> cases h1 : (b == 0) <;> cases h2 : (c == 0) <;> cases h3 : (d == 0) <;> simp_all <;> grind)
theorem t13_23 (n : Nat) (a b c d : Int) : gis Tryd.prog X (tab X.sh [(33, h33), (32, h32)] []) 13 n 40 Tryd.f13 [.agg [.int .u8 23, .int .i64 a, .int .i64 b, .int .i64 c, .int .i64 d]] (.n 9 (.u (.n 5 (.s (.n 7 (.s (.n 8 (.s (.e) (.n 6 (.s (.e) (.n 7 (.e)))))) (.e))) (.e))))) = .ask (clsOk 114 a) (.ask (clsOk 116 b) (.ask (c != 0) (.done (.bool (false))) (.ask (d != 0) (.done (.bool (false))) (.done (.bool (true))))) (.done (.bool (false)))) (.done (.bool (false))) := by kernel_rfl
theorem v13_23 (a b c d : Int) : validB 23 a b c d = (clsOk 114 a && (clsOk 116 b && ((c == 0) && ((d == 0) && dif 23 a b c)))) := by kernel_rfl
theorem s13_23 (n : Nat) (hn : 42 ≤ n) (a b c d : Int) : iso Tryd.prog X (n + 1) 13 [.agg [.int .u8 23, .int .i64 a, .int .i64 b, .int .i64 c, .int .i64 d]] = some (.bool (validB 23 a b c d)) := by
  refine gis_sound (by omega) (tab_le (all_cons (s33 n (by omega)) (all_cons (s32 n (by omega)) all_nil)) all_nil) fd13 (by rfl) (t13_23 n a b c d) ?_
  rw [v13_23]
  simp only [Holds, dif, PV.bool.injEq]
  simp
  try first | grind [cls110] | (cases h0 : clsOk 114 a <;> cases h1 : clsOk 116 b <;> cases h2 : (c == 0) <;> cases h3 : (d == 0) <;> simp_all <;> grind)
theorem t13_24 (n : Nat) (a b c d : Int) : gis Tryd.prog X (tab X.sh [(33, h33), (32, h32)] []) 13 n 40 Tryd.f13 [.agg [.int .u8 24, .int .i64 a, .int .i64 b, .int .i64 c, .int .i64 d]] (.n 9 (.u (.n 5 (.s (.n 7 (.s (.n 8 (.s (.e) (.n 6 (.s (.e) (.n 7 (.e)))))) (.e))) (.e))))) = .ask (clsOk 114 a) (.ask (clsOk 116 b) (.ask (c != 0) (.done (.bool (false))) (.ask (d != 0) (.done (.bool (false))) (.done (.bool (true))))) (.done (.bool (false)))) (.done (.bool (false))) := by kernel_rfl
theorem v13_24 (a b c d : Int) : validB 24 a b c d = (clsOk 114 a && (clsOk 116 b && ((c == 0) && ((d == 0) && dif 24 a b c)))) := by kernel_rfl
theorem s13_24 (n : Nat) (hn : 42 ≤ n) (a b c d : Int) : iso Tryd.prog X (n + 1) 13 [.agg [.int .u8 24, .int .i64 a, .int .i64 b, .int .i64 c, .int .i64 d]] = some (.bool (validB 24 a b c d)) := by
  refine gis_sound (by omega) (tab_le (all_cons (s33 n (by omega)) (all_cons (s32 n (by omega)) all_nil)) all_nil) fd13 (by rfl) (t13_24 n a b c d) ?_
  rw [v13_24]
  simp only [Holds, dif, PV.bool.injEq]
  simp
  try first | grind [cls110] | (cases h0 : clsOk 114 a <;> cases h1 : clsOk 116 b <;> cases h2 : (c == 0) <;> cases h3 : (d == 0) <;> simp_all <;> grind)
theorem t13_25 (n : Nat) (a b c d : Int) : gis Tryd.prog X (tab X.sh [(33, h33), (32, h32)] []) 13 n 40 Tryd.f13 [.agg [.int .u8 25, .int .i64 a, .int .i64 b, .int .i64 c, .int .i64 d]] (.n 9 (.u (.n 5 (.s (.n 8 (.s (.e) (.n 6 (.s (.e) (.n 6 (.s (.e) (.n 7 (.e)))))))) (.e))))) = .ask (clsOk 116 a) (.ask (b != 0) (.done (.bool (false))) (.ask (c != 0) (.done (.bool (false))) (.ask (d != 0) (.done (.bool (false))) (.done (.bool (true)))))) (.done (.bool (false))) := by kernel_rfl
theorem v13_25 (a b c d : Int) : validB 25 a b c d = (clsOk 116 a && ((b == 0) && ((c == 0) && ((d == 0) && dif 25 a b c)))) := by kernel_rfl
theorem s13_25 (n : Nat) (hn : 42 ≤ n) (a b c d : Int) : iso Tryd.prog X (n + 1) 13 [.agg [.int .u8 25, .int .i64 a, .int .i64 b, .int .i64 c, .int .i64 d]] = some (.bool (validB 25 a b c d)) := by
  refine gis_sound (by omega) (tab_le (all_cons (s33 n (by omega)) (all_cons (s32 n (by omega)) all_nil)) all_nil) fd13 (by rfl) (t13_25 n a b c d) ?_
  rw [v13_25]
  simp only [Holds, dif, PV.bool.injEq]
  simp
  try first | grind [cls110] | (cases h0 : clsOk 116 a <;> cases h1 : (b == 0) <;> cases h2 : (c == 0) <;> cases h3 : (d == 0) <;> simp_all <;> grind)
theorem t13_26 (n : Nat) (a b c d : Int) : gis Tryd.prog X (tab X.sh [(33, h33), (32, h32)] []) 13 n 40 Tryd.f13 [.agg [.int .u8 26, .int .i64 a, .int .i64 b, .int .i64 c, .int .i64 d]] (.n 9 (.u (.n 5 (.s (.n 7 (.s (.n 8 (.s (.e) (.n 6 (.s (.e) (.n 7 (.e)))))) (.e))) (.e))))) = .ask (clsOk 114 a) (.ask (clsOk 116 b) (.ask (c != 0) (.done (.bool (false))) (.ask (d != 0) (.done (.bool (false))) (.done (.bool (true))))) (.done (.bool (false)))) (.done (.bool (false))) := by kernel_rfl
theorem v13_26 (a b c d : Int) : validB 26 a b c d = (clsOk 114 a && (clsOk 116 b && ((c == 0) && ((d == 0) && dif 26 a b c)))) := by kernel_rfl
theorem s13_26 (n : Nat) (hn : 42 ≤ n) (a b c d : Int) : iso Tryd.prog X (n + 1) 13 [.agg [.int .u8 26, .int .i64 a, .int .i64 b, .int .i64 c, .int .i64 d]] = some (.bool (validB 26 a b c d)) := by
  refine gis_sound (by omega) (tab_le (all_cons (s33 n (by omega)) (all_cons (s32 n (by omega)) all_nil)) all_nil) fd13 (by rfl) (t13_26 n a b c d) ?_
  rw [v13_26]
  simp only [Holds, dif, PV.bool.injEq]
  simp
  try first | grind [cls110] | (cases h0 : clsOk 114 a <;> cases h1 : clsOk 116 b <;> cases h2 : (c == 0) <;> cases h3 : (d == 0) <;> simp_all <;> grind)
theorem t13_27 (n : Nat) (a b c d : Int) : gis Tryd.prog X (tab X.sh [(33, h33), (32, h32)] []) 13 n 40 Tryd.f13 [.agg [.int .u8 27, .int .i64 a, .int .i64 b, .int .i64 c, .int .i64 d]] (.n 9 (.u (.n 5 (.s (.n 7 (.s (.n 8 (.s (.e) (.n 6 (.s (.e) (.n 7 (.e)))))) (.e))) (.e))))) = .ask (clsOk 114 a) (.ask (clsOk 116 b) (.ask (c != 0) (.done (.bool (false))) (.ask (d != 0) (.done (.bool (false))) (.done (.bool (true))))) (.done (.bool (false)))) (.done (.bool (false))) := by kernel_rfl
theorem v13_27 (a b c d : Int) : validB 27 a b c d = (clsOk 114 a && (clsOk 116 b && ((c == 0) && ((d == 0) && dif 27 a b c)))) := by kernel_rfl
theorem s13_27 (n : Nat) (hn : 42 ≤ n) (a b c d : Int) : iso Tryd.prog X (n + 1) 13 [.agg [.int .u8 27, .int .i64 a, .int .i64 b, .int .i64 c, .int .i64 d]] = some (.bool (validB 27 a b c d)) := by
  refine gis_sound (by omega) (tab_le (all_cons (s33 n (by omega)) (all_cons (s32 n (by omega)) all_nil)) all_nil) fd13 (by rfl) (t13_27 n a b c d) ?_
  rw [v13_27]
  simp only [Holds, dif, PV.bool.injEq]
  simp
  try first | grind [cls110] | (cases h0 : clsOk 114 a <;> cases h1 : clsOk 116 b <;> cases h2 : (c == 0) <;> cases h3 : (d == 0) <;> simp_all <;> grind)
theorem t13_28 (n : Nat) (a b c d : Int) : gis Tryd.prog X (tab X.sh [(33, h33), (32, h32)] []) 13 n 40 Tryd.f13 [.agg [.int .u8 28, .int .i64 a, .int .i64 b, .int .i64 c, .int .i64 d]] (.n 9 (.u (.n 5 (.s (.n 7 (.s (.n 8 (.s (.e) (.n 6 (.s (.e) (.n 7 (.e)))))) (.e))) (.e))))) = .ask (clsOk 107 a) (.ask (clsOk 107 b) (.ask (c != 0) (.done (.bool (false))) (.ask (d != 0) (.done (.bool (false))) (.done (.bool (true))))) (.done (.bool (false)))) (.done (.bool (false))) := by kernel_rfl
theorem v13_28 (a b c d : Int) : validB 28 a b c d = (clsOk 107 a && (clsOk 107 b && ((c == 0) && ((d == 0) && dif 28 a b c)))) := by kernel_rfl
theorem s13_28 (n : Nat) (hn : 42 ≤ n) (a b c d : Int) : iso Tryd.prog X (n + 1) 13 [.agg [.int .u8 28, .int .i64 a, .int .i64 b, .int .i64 c, .int .i64 d]] = some (.bool (validB 28 a b c d)) := by
  refine gis_sound (by omega) (tab_le (all_cons (s33 n (by omega)) (all_cons (s32 n (by omega)) all_nil)) all_nil) fd13 (by rfl) (t13_28 n a b c d) ?_
  rw [v13_28]
  simp only [Holds, dif, PV.bool.injEq]
  simp
  try first | grind [cls110] | (cases h0 : clsOk 107 a <;> cases h1 : clsOk 107 b <;> cases h2 : (c == 0) <;> cases h3 : (d == 0) <;> simp_all <;> grind)
theorem t13_29 (n : Nat) (a b c d : Int) : gis Tryd.prog X (tab X.sh [(33, h33), (32, h32)] []) 13 n 40 Tryd.f13 [.agg [.int .u8 29, .int .i64 a, .int .i64 b, .int .i64 c, .int .i64 d]] (.n 9 (.u (.n 5 (.s (.n 7 (.s (.n 8 (.s (.e) (.n 6 (.s (.e) (.n 7 (.e)))))) (.e))) (.e))))) = .ask (clsOk 107 a) (.ask (clsOk 107 b) (.ask (c != 0) (.done (.bool (false))) (.ask (d != 0) (.done (.bool (false))) (.done (.bool (true))))) (.done (.bool (false)))) (.done (.bool (false))) := by kernel_rfl
theorem v13_29 (a b c d : Int) : validB 29 a b c d = (clsOk 107 a && (clsOk 107 b && ((c == 0) && ((d == 0) && dif 29 a b c)))) := by kernel_rfl
theorem s13_29 (n : Nat) (hn : 42 ≤ n) (a b c d : Int) : iso Tryd.prog X (n + 1) 13 [.agg [.int .u8 29, .int .i64 a, .int .i64 b, .int .i64 c, .int .i64 d]] = some (.bool (validB 29 a b c d)) := by
  refine gis_sound (by omega) (tab_le (all_cons (s33 n (by omega)) (all_cons (s32 n (by omega)) all_nil)) all_nil) fd13 (by rfl) (t13_29 n a b c d) ?_
  rw [v13_29]
  simp only [Holds, dif, PV.bool.injEq]
  simp
  try first | grind [cls110] | (cases h0 : clsOk 107 a <;> cases h1 : clsOk 107 b <;> cases h2 : (c == 0) <;> cases h3 : (d == 0) <;> simp_all <;> grind)
theorem t13_30 (n : Nat) (a b c d : Int) : gis Tryd.prog X (tab X.sh [(33, h33), (32, h32)] []) 13 n 40 Tryd.f13 [.agg [.int .u8 30, .int .i64 a, .int .i64 b, .int .i64 c, .int .i64 d]] (.n 9 (.u (.n 5 (.s (.n 8 (.s (.e) (.n 6 (.s (.e) (.n 6 (.s (.e) (.n 7 (.e)))))))) (.e))))) = .ask (clsOk 116 a) (.ask (b != 0) (.done (.bool (false))) (.ask (c != 0) (.done (.bool (false))) (.ask (d != 0) (.done (.bool (false))) (.done (.bool (true)))))) (.done (.bool (false))) := by kernel_rfl
theorem v13_30 (a b c d : Int) : validB 30 a b c d = (clsOk 116 a && ((b == 0) && ((c == 0) && ((d == 0) && dif 30 a b c)))) := by kernel_rfl
theorem s13_30 (n : Nat) (hn : 42 ≤ n) (a b c d : Int) : iso Tryd.prog X (n + 1) 13 [.agg [.int .u8 30, .int .i64 a, .int .i64 b, .int .i64 c, .int .i64 d]] = some (.bool (validB 30 a b c d)) := by
  refine gis_sound (by omega) (tab_le (all_cons (s33 n (by omega)) (all_cons (s32 n (by omega)) all_nil)) all_nil) fd13 (by rfl) (t13_30 n a b c d) ?_
  rw [v13_30]
  simp only [Holds, dif, PV.bool.injEq]
  simp
  try first | grind [cls110] | (cases h0 : clsOk 116 a <;> cases h1 : (b == 0) <;> cases h2 : (c == 0) <;> cases h3 : (d == 0) <;> simp_all <;> grind)
theorem t13_31 (n : Nat) (a b c d : Int) : gis Tryd.prog X (tab X.sh [(33, h33), (32, h32)] []) 13 n 40 Tryd.f13 [.agg [.int .u8 31, .int .i64 a, .int .i64 b, .int .i64 c, .int .i64 d]] (.n 9 (.u (.n 5 (.s (.n 8 (.s (.e) (.n 6 (.s (.e) (.n 6 (.s (.e) (.n 7 (.e)))))))) (.e))))) = .ask (clsOk 116 a) (.ask (b != 0) (.done (.bool (false))) (.ask (c != 0) (.done (.bool (false))) (.ask (d != 0) (.done (.bool (false))) (.done (.bool (true)))))) (.done (.bool (false))) := by kernel_rfl
theorem v13_31 (a b c d : Int) : validB 31 a b c d = (clsOk 116 a && ((b == 0) && ((c == 0) && ((d == 0) && dif 31 a b c)))) := by kernel_rfl
theorem s13_31 (n : Nat) (hn : 42 ≤ n) (a b c d : Int) : iso Tryd.prog X (n + 1) 13 [.agg [.int .u8 31, .int .i64 a, .int .i64 b, .int .i64 c, .int .i64 d]] = some (.bool (validB 31 a b c d)) := by
  refine gis_sound (by omega) (tab_le (all_cons (s33 n (by omega)) (all_cons (s32 n (by omega)) all_nil)) all_nil) fd13 (by rfl) (t13_31 n a b c d) ?_
  rw [v13_31]
  simp only [Holds, dif, PV.bool.injEq]
  simp
  try first | grind [cls110] | (cases h0 : clsOk 116 a <;> cases h1 : (b == 0) <;> cases h2 : (c == 0) <;> cases h3 : (d == 0) <;> simp_all <;> grind)
theorem t13_32 (n : Nat) (a b c d : Int) : gis Tryd.prog X (tab X.sh [(33, h33), (32, h32)] []) 13 n 40 Tryd.f13 [.agg [.int .u8 32, .int .i64 a, .int .i64 b, .int .i64 c, .int .i64 d]] (.n 9 (.u (.n 5 (.s (.n 8 (.s (.e) (.n 6 (.s (.e) (.n 6 (.s (.e) (.n 7 (.e)))))))) (.e))))) = .ask (clsOk 116 a) (.ask (b != 0) (.done (.bool (false))) (.ask (c != 0) (.done (.bool (false))) (.ask (d != 0) (.done (.bool (false))) (.done (.bool (true)))))) (.done (.bool (false))) := by kernel_rfl
theorem v13_32 (a b c d : Int) : validB 32 a b c d = (clsOk 116 a && ((b == 0) && ((c == 0) && ((d == 0) && dif 32 a b c)))) := by kernel_rfl
theorem s13_32 (n : Nat) (hn : 42 ≤ n) (a b c d : Int) : iso Tryd.prog X (n + 1) 13 [.agg [.int .u8 32, .int .i64 a, .int .i64 b, .int .i64 c, .int .i64 d]] = some (.bool (validB 32 a b c d)) := by
  refine gis_sound (by omega) (tab_le (all_cons (s33 n (by omega)) (all_cons (s32 n (by omega)) all_nil)) all_nil) fd13 (by rfl) (t13_32 n a b c d) ?_
  rw [v13_32]
  simp only [Holds, dif, PV.bool.injEq]
  simp
  try first | grind [cls110] | (cases h0 : clsOk 116 a <;> cases h1 : (b == 0) <;> cases h2 : (c == 0) <;> cases h3 : (d == 0) <;> simp_all <;> grind)
theorem t13_33 (n : Nat) (a b c d : Int) : gis Tryd.prog X (tab X.sh [(33, h33), (32, h32)] []) 13 n 40 Tryd.f13 [.agg [.int .u8 33, .int .i64 a, .int .i64 b, .int .i64 c, .int .i64 d]] (.n 9 (.u (.n 5 (.s (.n 8 (.s (.e) (.n 6 (.s (.e) (.n 6 (.s (.e) (.n 7 (.e)))))))) (.e))))) = .ask (clsOk 116 a) (.ask (b != 0) (.done (.bool (false))) (.ask (c != 0) (.done (.bool (false))) (.ask (d != 0) (.done (.bool (false))) (.done (.bool (true)))))) (.done (.bool (false))) := by kernel_rfl
theorem v13_33 (a b c d : Int) : validB 33 a b c d = (clsOk 116 a && ((b == 0) && ((c == 0) && ((d == 0) && dif 33 a b c)))) := by kernel_rfl
theorem s13_33 (n : Nat) (hn : 42 ≤ n) (a b c d : Int) : iso Tryd.prog X (n + 1) 13 [.agg [.int .u8 33, .int .i64 a, .int .i64 b, .int .i64 c, .int .i64 d]] = some (.bool (validB 33 a b c d)) := by
  refine gis_sound (by omega) (tab_le (all_cons (s33 n (by omega)) (all_cons (s32 n (by omega)) all_nil)) all_nil) fd13 (by rfl) (t13_33 n a b c d) ?_
  rw [v13_33]
  simp only [Holds, dif, PV.bool.injEq]
  simp
  try first | grind [cls110] | (cases h0 : clsOk 116 a <;> cases h1 : (b == 0) <;> cases h2 : (c == 0) <;> cases h3 : (d == 0) <;> simp_all <;> grind)
theorem t13_34 (n : Nat) (a b c d : Int) : gis Tryd.prog X (tab X.sh [(33, h33), (32, h32)] []) 13 n 40 Tryd.f13 [.agg [.int .u8 34, .int .i64 a, .int .i64 b, .int .i64 c, .int .i64 d]] (.n 9 (.u (.n 6 (.s (.e) (.n 6 (.s (.e) (.n 6 (.s (.e) (.n 6 (.s (.e) (.n 7 (.e)))))))))))) = .ask (a != 0) (.done (.bool (false))) (.ask (b != 0) (.done (.bool (false))) (.ask (c != 0) (.done (.bool (false))) (.ask (d != 0) (.done (.bool (false))) (.done (.bool (true)))))) := by kernel_rfl
theorem v13_34 (a b c d : Int) : validB 34 a b c d = ((a == 0) && ((b == 0) && ((c == 0) && ((d == 0) && dif 34 a b c)))) := by kernel_rfl
theorem s13_34 (n : Nat) (hn : 42 ≤ n) (a b c d : Int) : iso Tryd.prog X (n + 1) 13 [.agg [.int .u8 34, .int .i64 a, .int .i64 b, .int .i64 c, .int .i64 d]] = some (.bool (validB 34 a b c d)) := by
  refine gis_sound (by omega) (tab_le (all_cons (s33 n (by omega)) (all_cons (s32 n (by omega)) all_nil)) all_nil) fd13 (by rfl) (t13_34 n a b c d) ?_
  rw [v13_34]
  simp only [Holds, dif, PV.bool.injEq]
  simp
  try first | grind [cls110] | (cases h0 : (a == 0) <;> cases h1 : (b == 0) <;> cases h2 : (c == 0) <;> cases h3 : (d == 0) <;> simp_all <;> grind)
end Go.Proofs.YtkfmhmkeikhdbaaDoor
