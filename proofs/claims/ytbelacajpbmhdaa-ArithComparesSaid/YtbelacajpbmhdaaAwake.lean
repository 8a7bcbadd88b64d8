/- awake, the examples of the chapter, answers true; contracts of the operators. -/
import Derived.Test.YtbelacajpbmhdaaRows
import Derived.WalkKit
import Derived.ProofKit
import Derived.IntWalk
namespace Go.Proofs.Ytbelacajpbmhdaa
open Go.ChangeShapes Go.WideShapes Go.ChangeAt Go.RowKit
set_option maxHeartbeats 400000 in
theorem awake_any (w : World) :
    Calls Try.prog 10 #[] w fun e w' => e = .returned (.bool true) ∧ w = w' := by
  go_enter Try.func10, Try.ntmps10
  go_wp2
  go_ret
  exact ⟨rfl, rfl⟩
end Go.Proofs.Ytbelacajpbmhdaa
