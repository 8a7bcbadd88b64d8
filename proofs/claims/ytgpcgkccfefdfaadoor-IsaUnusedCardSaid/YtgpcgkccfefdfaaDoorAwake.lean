/- The chapter's examples: awake answers true. -/
import Derived.Test.YtgpcgkccfefdfaaDoorRows
import Derived.WalkKit
import Derived.ProofKit
import Derived.OpenShut
import Derived.Below
import Derived.Lib.Hide
import Derived.Test.YtgpcgkccfefdfaaDoorRefV
import Derived.Test.YtgpcgkccfefdfaaDoorLook
import Derived.Outline
import Derived.WalkLawsBesides
import Derived.WalkSpells
import Derived.Deep.RegionHeld3
namespace Go.Proofs.YtgpcgkccfefdfaaDoor
open Go.ChangeShapes Go.WideShapes Go.ChangeAt Go.RowKit
set_option linter.unusedSimpArgs false
set_option linter.unusedVariables false
theorem v1 : validB 9 1 3 2 8 = true := by decide
theorem v2 : validB 9 1 1 2 8 = false := by decide
theorem i1 : invO 1 = 2 := rfl
theorem i23 : invO 23 = 26 := rfl
theorem m34 : mnS 34 = ⟨#[104, 97, 108, 116]⟩ := rfl
set_option maxHeartbeats 4000000 in
theorem awake_any (w : World) (hL : Laid w) : Calls Tryd.prog 11 #[] w fun e w' => e = .returned (.bool true) ∧ Below w.heap.size w w' := by
  have HL := Lib.hid hL
  have g1 := v1
  have g2 := v2
  have g3 := i1
  have g4 := i23
  have g5 := m34
  clear hL
  have HB : Below w.heap.size w w := Below.refl _ _
  go_enter Tryd.func11, Tryd.ntmps11
  go_wp2_with (first | (go_at_call 15; refine (inverse_any _ _ _ _ _ _).mono ?_; rintro e w1 ⟨rfl, hb⟩; replace HL := Lib.hid (Laid.below HL.out hb); replace HB := below_on HB hb; clear hb) | (go_at_call 12; refine (valid_any _ _ _ _ _ _ (by omega) HL.out).mono ?_; rintro e w1 ⟨rfl, hb⟩; replace HL := Lib.hid (Laid.below HL.out hb); replace HB := below_on HB hb; clear hb) | (go_at_call 17; refine (mnemonic_any _ _ (by omega) HL.out).mono ?_; rintro e w1 ⟨rfl, hb⟩; replace HL := Lib.hid (Laid.below HL.out hb); replace HB := below_on HB hb; clear hb))
  go_ret
  exact ⟨by simp, HB⟩
end Go.Proofs.YtgpcgkccfefdfaaDoor
