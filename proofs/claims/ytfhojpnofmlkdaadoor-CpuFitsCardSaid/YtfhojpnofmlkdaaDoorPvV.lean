/- Functions read with values that are not known; what is called is given by a table. -/
import Derived.Test.YtfhojpnofmlkdaaDoorPvU
namespace Go.Proofs.YtfhojpnofmlkdaaDoor.Pv
open Go.RowKit
set_option linter.unusedSimpArgs false
set_option linter.unusedVariables false
set_option maxHeartbeats 1000000
/-- a table of calls -/
abbrev Tab := List (Nat × (List PV → Option PV))
abbrev TabS := List (Nat × (List PV → List Box → Option (PV × List Box)))
def tab (sh : Nat → Bool) (t : Tab) (u : TabS) : Orc := ⟨fun g as => match t.lookup g with | some h => h as | none => none, fun g as hp => match u.lookup g with | some h => h as hp | none => none, sh, []⟩
/-- lists grow as values -/
def ownS (sh : Nat → Bool) : Nat → Bool := fun g => g == 1000000 || sh g
theorem ownS_far (sh : Nat → Bool) (n : Nat) (hn : 1000000 < n) : ownS sh n = sh n := by
  unfold ownS
  have : (n == 1000000) = false := by rw [beq_eq_false_iff_ne]; omega
  rw [this, Bool.false_or]
theorem ownS_tab {sh : Nat → Bool} {t : Tab} {u : TabS} (n : Nat) : (tab (ownS sh) t u).sh n = ownS sh n := rfl
theorem hs_at (C : Orc) (g : Nat) : C.hs g = C.sh (g + far) := rfl
theorem ownS_hs {sh : Nat → Bool} {t : Tab} {u : TabS} : (tab (ownS sh) t u).hs = fun g => sh (g + far) := by
  funext g
  have h := ownS_far sh (g + far) (by unfold far; omega)
  rw [hs_at, ownS_tab, h]
theorem lookup_in {β : Type} : ∀ {l : List (Nat × β)} {k : Nat} {v : β}, l.lookup k = some v → (k, v) ∈ l
  | [], k, v, h => by simp [List.lookup] at h
  | (a, b) :: l, k, v, h => by
    unfold List.lookup at h
    split at h
    · rename_i e
      have : k = a := by simpa using e
      cases h; subst this; exact List.mem_cons_self ..
    · exact List.mem_cons_of_mem _ (lookup_in h)
end Go.Proofs.YtfhojpnofmlkdaaDoor.Pv
