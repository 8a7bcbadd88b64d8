/- Functions read with values that are not known; what is called is given by a table. -/
import Derived.Test.YtkfmhmkeikhdbaaDoorPvU
namespace Go.Proofs.YtkfmhmkeikhdbaaDoor.Pv
open Go.RowKit
set_option linter.unusedSimpArgs false
set_option linter.unusedVariables false
set_option maxHeartbeats 1000000
/-- a table of calls -/
abbrev Tab := List (Nat × (List PV → Option PV))
abbrev TabS := List (Nat × (List PV → List Box → Option (PV × List Box)))
def tab (sh : Nat → Bool) (t : Tab) (u : TabS) : Orc := ⟨fun g as => match t.lookup g with | some h => h as | none => none, fun g as hp => match u.lookup g with | some h => h as hp | none => none, sh⟩
theorem lookup_in {β : Type} : ∀ {l : List (Nat × β)} {k : Nat} {v : β}, l.lookup k = some v → (k, v) ∈ l
  | [], k, v, h => by simp [List.lookup] at h
  | (a, b) :: l, k, v, h => by
    unfold List.lookup at h
    split at h
    · rename_i e
      have : k = a := by simpa using e
      cases h; subst this; exact List.mem_cons_self ..
    · exact List.mem_cons_of_mem _ (lookup_in h)
end Go.Proofs.YtkfmhmkeikhdbaaDoor.Pv
