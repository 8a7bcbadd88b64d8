/- Contracts: when an instruction is valid. -/
import Derived.Test.YtfhojpnofmlkdaaDoorRows
import Derived.WalkKit
import Derived.ProofKit
import Derived.OpenShut
import Derived.Below
import Derived.Lib.Hide
import Derived.Test.YtfhojpnofmlkdaaDoorTarg
import Derived.Outline
import Derived.WalkLawsBesides
import Derived.WalkSpells
namespace Go.Proofs.YtfhojpnofmlkdaaDoor
open Go.ChangeShapes Go.WideShapes Go.ChangeAt Go.RowKit
set_option linter.unusedSimpArgs false
set_option linter.unusedVariables false
set_option maxRecDepth 100000
/-- is x allowed where the operand's letter is c? -/
def clsOk (c x : Int) : Bool := if c = 114 then decide (0 ≤ x ∧ x ≤ 15) else if c = 107 then decide (0 ≤ x ∧ x ≤ 16384) else if c = 116 then decide (0 ≤ x ∧ x ≤ 65535) else if c = 101 then decide (1 ≤ x ∧ x ≤ 23) else if c = 111 then decide (8 ≤ x ∧ x ≤ 23) else true
set_option maxHeartbeats 2000000 in
theorem allowed_any (c x : Int) (w : World) : Calls Tryd.prog 46 #[.int .u8 c, .int .i64 x] w fun e w' => e = .returned (.bool (clsOk c x)) ∧ w = w' := by
  by_cases h114 : c = 114
  · subst h114
    rcases (by omega : x < 0 ∨ (0 ≤ x ∧ x ≤ 15) ∨ 15 < x) with h | h | h
    · have e : clsOk 114 x = false := by unfold clsOk; simp; try omega
      rw [e]; clear e
      go_enter Tryd.func46, Tryd.ntmps46; go_wp2; all_goals (go_ret; exact ⟨by simp; try omega, rfl⟩)
    · have e : clsOk 114 x = true := by unfold clsOk; simp; try omega
      rw [e]; clear e
      go_enter Tryd.func46, Tryd.ntmps46; go_wp2; all_goals (go_ret; exact ⟨by simp; try omega, rfl⟩)
    · have e : clsOk 114 x = false := by unfold clsOk; simp; try omega
      rw [e]; clear e
      go_enter Tryd.func46, Tryd.ntmps46; go_wp2; all_goals (go_ret; exact ⟨by simp; try omega, rfl⟩)
  by_cases h107 : c = 107
  · subst h107
    rcases (by omega : x < 0 ∨ (0 ≤ x ∧ x ≤ 16384) ∨ 16384 < x) with h | h | h
    · have e : clsOk 107 x = false := by unfold clsOk; simp; try omega
      rw [e]; clear e
      go_enter Tryd.func46, Tryd.ntmps46; go_wp2; all_goals (go_ret; exact ⟨by simp; try omega, rfl⟩)
    · have e : clsOk 107 x = true := by unfold clsOk; simp; try omega
      rw [e]; clear e
      go_enter Tryd.func46, Tryd.ntmps46; go_wp2; all_goals (go_ret; exact ⟨by simp; try omega, rfl⟩)
    · have e : clsOk 107 x = false := by unfold clsOk; simp; try omega
      rw [e]; clear e
      go_enter Tryd.func46, Tryd.ntmps46; go_wp2; all_goals (go_ret; exact ⟨by simp; try omega, rfl⟩)
  by_cases h116 : c = 116
  · subst h116
    rcases (by omega : x < 0 ∨ (0 ≤ x ∧ x ≤ 65535) ∨ 65535 < x) with h | h | h
    · have e : clsOk 116 x = false := by unfold clsOk; simp; try omega
      rw [e]; clear e
      go_enter Tryd.func46, Tryd.ntmps46; go_wp2; all_goals (go_ret; exact ⟨by simp; try omega, rfl⟩)
    · have e : clsOk 116 x = true := by unfold clsOk; simp; try omega
      rw [e]; clear e
      go_enter Tryd.func46, Tryd.ntmps46; go_wp2; all_goals (go_ret; exact ⟨by simp; try omega, rfl⟩)
    · have e : clsOk 116 x = false := by unfold clsOk; simp; try omega
      rw [e]; clear e
      go_enter Tryd.func46, Tryd.ntmps46; go_wp2; all_goals (go_ret; exact ⟨by simp; try omega, rfl⟩)
  by_cases h101 : c = 101
  · subst h101
    rcases (by omega : x < 1 ∨ (1 ≤ x ∧ x ≤ 23) ∨ 23 < x) with h | h | h
    · have e : clsOk 101 x = false := by unfold clsOk; simp; try omega
      rw [e]; clear e
      go_enter Tryd.func46, Tryd.ntmps46; go_wp2; all_goals (go_ret; exact ⟨by simp; try omega, rfl⟩)
    · have e : clsOk 101 x = true := by unfold clsOk; simp; try omega
      rw [e]; clear e
      go_enter Tryd.func46, Tryd.ntmps46; go_wp2; all_goals (go_ret; exact ⟨by simp; try omega, rfl⟩)
    · have e : clsOk 101 x = false := by unfold clsOk; simp; try omega
      rw [e]; clear e
      go_enter Tryd.func46, Tryd.ntmps46; go_wp2; all_goals (go_ret; exact ⟨by simp; try omega, rfl⟩)
  by_cases h111 : c = 111
  · subst h111
    rcases (by omega : x < 8 ∨ (8 ≤ x ∧ x ≤ 23) ∨ 23 < x) with h | h | h
    · have e : clsOk 111 x = false := by unfold clsOk; simp; try omega
      rw [e]; clear e
      go_enter Tryd.func46, Tryd.ntmps46; go_wp2; all_goals (go_ret; exact ⟨by simp; try omega, rfl⟩)
    · have e : clsOk 111 x = true := by unfold clsOk; simp; try omega
      rw [e]; clear e
      go_enter Tryd.func46, Tryd.ntmps46; go_wp2; all_goals (go_ret; exact ⟨by simp; try omega, rfl⟩)
    · have e : clsOk 111 x = false := by unfold clsOk; simp; try omega
      rw [e]; clear e
      go_enter Tryd.func46, Tryd.ntmps46; go_wp2; all_goals (go_ret; exact ⟨by simp; try omega, rfl⟩)
  have e : clsOk c x = true := by unfold clsOk; simp [*]
  rw [e]; clear e
  go_enter Tryd.func46, Tryd.ntmps46; go_wp2; go_ret; exact ⟨rfl, rfl⟩
end Go.Proofs.YtfhojpnofmlkdaaDoor
