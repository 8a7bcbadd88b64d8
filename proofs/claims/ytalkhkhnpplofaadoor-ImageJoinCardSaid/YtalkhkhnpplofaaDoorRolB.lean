/- What a role says of an opcode, test by test. -/
import Derived.Test.YtalkhkhnpplofaaDoorRows
import Derived.WalkKit
import Derived.ProofKit
import Derived.OpenShut
import Derived.Below
import Derived.Lib.Hide
import Derived.Outline
import Derived.WalkLawsBesides
import Derived.WalkSpells
import Derived.WalkSmall
import Derived.IntWalk
import Derived.Deep.QuietTactic
import Derived.BigQuiet
import Derived.Deep.RegionHeld3
import Derived.StillTailTactics
import Derived.Handy
import Derived.Deep.Cut
import Derived.Deep.OwnRows
import Derived.Deep.RegionWith
import Derived.Test.YtalkhkhnpplofaaDoorWd
namespace Go.Proofs.YtalkhkhnpplofaaDoor
open Go.ChangeShapes Go.WideShapes Go.ChangeAt Go.RowKit
set_option linter.unusedSimpArgs false
set_option linter.unusedVariables false
theorem rolB0 {k : Int} (h : rol k = 0) : jmp k = false ∧ lnd k = false ∧ (k == 32) = false ∧ (k == 33) = false := by
  have j1 := rol1 k
  have j2 := rol2 k
  have j3 := rol3 k
  have j4 := rol4 k
  rw [h] at j1 j2 j3 j4
  refine ⟨by cases hj : jmp k; rfl; exact absurd (j1.2 hj) (by decide), by cases hj : lnd k; rfl; exact absurd (j2.2 hj) (by decide), by rw [beq_eq_false_iff_ne]; intro e; exact absurd (j3.2 e) (by decide), by rw [beq_eq_false_iff_ne]; intro e; exact absurd (j4.2 e) (by decide)⟩
theorem rolB1 {k : Int} (h : rol k = 1) : jmp k = true ∧ lnd k = false ∧ (k == 30) = false ∧ (k == 31) = false ∧ (k == 32) = false ∧ (k == 33) = false := by
  have j1 := rol1 k
  have j2 := rol2 k
  have j3 := rol3 k
  have j4 := rol4 k
  rw [h] at j1 j2 j3 j4
  refine ⟨j1.1 rfl, by cases hj : lnd k; rfl; exact absurd (j2.2 hj) (by decide), by rw [beq_eq_false_iff_ne]; rintro rfl; exact absurd h (by decide), by rw [beq_eq_false_iff_ne]; rintro rfl; exact absurd h (by decide), by rw [beq_eq_false_iff_ne]; intro e; exact absurd (j3.2 e) (by decide), by rw [beq_eq_false_iff_ne]; intro e; exact absurd (j4.2 e) (by decide)⟩
theorem rolB2 {k : Int} (h : rol k = 2) : jmp k = false ∧ lnd k = true ∧ (k == 30) = false ∧ (k == 31) = false ∧ (k == 32) = false ∧ (k == 33) = false := by
  have j1 := rol1 k
  have j2 := rol2 k
  have j3 := rol3 k
  have j4 := rol4 k
  rw [h] at j1 j2 j3 j4
  refine ⟨by cases hj : jmp k; rfl; exact absurd (j1.2 hj) (by decide), j2.1 rfl, by rw [beq_eq_false_iff_ne]; rintro rfl; exact absurd h (by decide), by rw [beq_eq_false_iff_ne]; rintro rfl; exact absurd h (by decide), by rw [beq_eq_false_iff_ne]; intro e; exact absurd (j3.2 e) (by decide), by rw [beq_eq_false_iff_ne]; intro e; exact absurd (j4.2 e) (by decide)⟩
theorem rolB3 {k : Int} (h : rol k = 3) : jmp k = false ∧ lnd k = false ∧ (k == 30) = false ∧ (k == 31) = false ∧ (k == 32) = true ∧ (k == 33) = false := by
  have j1 := rol1 k
  have j2 := rol2 k
  have j3 := rol3 k
  have j4 := rol4 k
  rw [h] at j1 j2 j3 j4
  refine ⟨by cases hj : jmp k; rfl; exact absurd (j1.2 hj) (by decide), by cases hj : lnd k; rfl; exact absurd (j2.2 hj) (by decide), by rw [beq_eq_false_iff_ne]; rintro rfl; exact absurd h (by decide), by rw [beq_eq_false_iff_ne]; rintro rfl; exact absurd h (by decide), by rw [beq_iff_eq]; exact j3.1 rfl, by rw [beq_eq_false_iff_ne]; intro e; exact absurd (j4.2 e) (by decide)⟩
theorem rolB4 {k : Int} (h : rol k = 4) : jmp k = false ∧ lnd k = false ∧ (k == 30) = false ∧ (k == 31) = false ∧ (k == 32) = false ∧ (k == 33) = true := by
  have j1 := rol1 k
  have j2 := rol2 k
  have j3 := rol3 k
  have j4 := rol4 k
  rw [h] at j1 j2 j3 j4
  refine ⟨by cases hj : jmp k; rfl; exact absurd (j1.2 hj) (by decide), by cases hj : lnd k; rfl; exact absurd (j2.2 hj) (by decide), by rw [beq_eq_false_iff_ne]; rintro rfl; exact absurd h (by decide), by rw [beq_eq_false_iff_ne]; rintro rfl; exact absurd h (by decide), by rw [beq_eq_false_iff_ne]; intro e; exact absurd (j3.2 e) (by decide), by rw [beq_iff_eq]; exact j4.1 rfl⟩
end Go.Proofs.YtalkhkhnpplofaaDoor
