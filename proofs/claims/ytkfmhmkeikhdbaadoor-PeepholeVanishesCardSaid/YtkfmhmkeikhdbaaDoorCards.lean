/-
  DERIVED. GIVEN WITH THE SEED: THE CARDS: each row of YtkfmhmkeikhdbaaDoorRows.lean that lists a variable, with what it lists TIED to the program's text (the seventh form; the later family's looks); each row that meets fmt, with fmt's text TOLD by the authors' own Lean function (tested against real Go, not proved from fmt's source: count such statements apart). THE CARD IS WHAT COUNTS. Prove the row's statement (the work); the ties are given (YtkfmhmkeikhdbaaDoorTie.lean); close each card by the builder's one call (the guide's Derived/Test/ToyasCard.lean, 'card_holds'). Laid BY PROGRAM, IN A SANDBOX (cutbox-door.mjs). By AI agents, Wed Nov 11 2026. No macro, syntax, notation, axiom, sorry.
-/
import Derived.Test.YtkfmhmkeikhdbaaDoorRows
import GoSem.ClaimSeven
namespace Go.Proofs.YtkfmhmkeikhdbaaDoor
namespace Rows

/-- THE TIED CARD OF 'backsteplaw32.PeepholeCancels'. -/
def peepholeCancelsCard : Claim7 := { stood := { row := peepholeCancelsRow, standIns := [], harness := (true, "f62d5378bbfd76a101e443aa2e0e450f56b707b2e0d38d8a0841e7b61b21d15b"), looks := false }, kinds := [], alts := [], laidByText := true, laidKinds := [.data], laidTests := true, laidLooks := .later }
def PeepholeCancelsCardSaid : Prop := Claim7.holds Tryd.pinned (.plain (OpenSpec.ofChange peepholeCancelsSpec)) peepholeCancelsCard

/-- THE TIED CARD OF 'backsteplaw32.PeepholeOptimize'. -/
def peepholeOptimizeCard : Claim7 := { stood := { row := peepholeOptimizeRow, standIns := [], harness := (true, "f62d5378bbfd76a101e443aa2e0e450f56b707b2e0d38d8a0841e7b61b21d15b"), looks := false }, kinds := [], alts := [], laidByText := true, laidKinds := [.data], laidTests := true, laidLooks := .later }
def PeepholeOptimizeCardSaid : Prop := Claim7.holds Tryd.pinned (.plain (OpenSpec.ofChange peepholeOptimizeSpec)) peepholeOptimizeCard

/-- THE TIED CARD OF 'backsteplaw32.PeepholeNormal'. -/
def peepholeNormalCard : Claim7 := { stood := { row := peepholeNormalRow, standIns := [], harness := (true, "f62d5378bbfd76a101e443aa2e0e450f56b707b2e0d38d8a0841e7b61b21d15b"), looks := false }, kinds := [], alts := [], laidByText := true, laidKinds := [.data], laidTests := true, laidLooks := .later }
def PeepholeNormalCardSaid : Prop := Claim7.holds Tryd.pinned (.plain (OpenSpec.ofChange peepholeNormalSpec)) peepholeNormalCard

/-- THE TIED CARD OF 'backsteplaw32.PeepholeRuns'. -/
def peepholeRunsCard : Claim7 := { stood := { row := peepholeRunsRow, standIns := [], harness := (true, "f62d5378bbfd76a101e443aa2e0e450f56b707b2e0d38d8a0841e7b61b21d15b"), looks := false }, kinds := [], alts := [], laidByText := true, laidKinds := [.data], laidTests := true, laidLooks := .later }
def PeepholeRunsCardSaid : Prop := Claim7.holds Tryd.pinned (.plain (OpenSpec.ofChange peepholeRunsSpec)) peepholeRunsCard

/-- THE TIED CARD OF 'backsteplaw32.PeepholeInverse'. -/
def peepholeInverseCard : Claim7 := { stood := { row := peepholeInverseRow, standIns := [], harness := (true, "f62d5378bbfd76a101e443aa2e0e450f56b707b2e0d38d8a0841e7b61b21d15b"), looks := false }, kinds := [], alts := [], laidByText := true, laidKinds := [.data], laidTests := true, laidLooks := .later }
def PeepholeInverseCardSaid : Prop := Claim7.holds Tryd.pinned (.plain (OpenSpec.ofChange peepholeInverseSpec)) peepholeInverseCard

/-- THE TIED CARD OF 'backsteplaw32.PeepholeVanishes'. -/
def peepholeVanishesCard : Claim7 := { stood := { row := peepholeVanishesRow, standIns := [], harness := (true, "f62d5378bbfd76a101e443aa2e0e450f56b707b2e0d38d8a0841e7b61b21d15b"), looks := false }, kinds := [], alts := [], laidByText := true, laidKinds := [.data], laidTests := true, laidLooks := .later }
def PeepholeVanishesCardSaid : Prop := Claim7.holds Tryd.pinned (.plain (OpenSpec.ofChange peepholeVanishesSpec)) peepholeVanishesCard

/-- THE TIED CARD OF 'backsteplaw32.PeepholeKeeps'. -/
def peepholeKeepsCard : Claim7 := { stood := { row := peepholeKeepsRow, standIns := [], harness := (true, "f62d5378bbfd76a101e443aa2e0e450f56b707b2e0d38d8a0841e7b61b21d15b"), looks := false }, kinds := [], alts := [], laidByText := true, laidKinds := [.data], laidTests := true, laidLooks := .later }
def PeepholeKeepsCardSaid : Prop := Claim7.holds Tryd.pinned (.plain (OpenSpec.ofChange peepholeKeepsSpec)) peepholeKeepsCard

/-- THE SECOND FORM's CARD OF 'backsteplaw32.PeepholeCancels'. -/
def peepholeCancelsUptoCard : Claim7 := { stood := { row := peepholeCancelsUptoRow, standIns := [], harness := (true, "f62d5378bbfd76a101e443aa2e0e450f56b707b2e0d38d8a0841e7b61b21d15b"), looks := false }, kinds := [], alts := [], laidByText := true, laidKinds := [.data], laidTests := true, laidLooks := .later }
def PeepholeCancelsUptoCardSaid : Prop := Claim7.holds Tryd.pinned (.plain (OpenSpec.upto peepholeCancelsSpec)) peepholeCancelsUptoCard

/-- THE SECOND FORM's CARD OF 'backsteplaw32.PeepholeOptimize'. -/
def peepholeOptimizeUptoCard : Claim7 := { stood := { row := peepholeOptimizeUptoRow, standIns := [], harness := (true, "f62d5378bbfd76a101e443aa2e0e450f56b707b2e0d38d8a0841e7b61b21d15b"), looks := false }, kinds := [], alts := [], laidByText := true, laidKinds := [.data], laidTests := true, laidLooks := .later }
def PeepholeOptimizeUptoCardSaid : Prop := Claim7.holds Tryd.pinned (.plain (OpenSpec.upto peepholeOptimizeSpec)) peepholeOptimizeUptoCard

/-- THE SECOND FORM's CARD OF 'backsteplaw32.PeepholeNormal'. -/
def peepholeNormalUptoCard : Claim7 := { stood := { row := peepholeNormalUptoRow, standIns := [], harness := (true, "f62d5378bbfd76a101e443aa2e0e450f56b707b2e0d38d8a0841e7b61b21d15b"), looks := false }, kinds := [], alts := [], laidByText := true, laidKinds := [.data], laidTests := true, laidLooks := .later }
def PeepholeNormalUptoCardSaid : Prop := Claim7.holds Tryd.pinned (.plain (OpenSpec.upto peepholeNormalSpec)) peepholeNormalUptoCard

/-- THE SECOND FORM's CARD OF 'backsteplaw32.PeepholeRuns'. -/
def peepholeRunsUptoCard : Claim7 := { stood := { row := peepholeRunsUptoRow, standIns := [], harness := (true, "f62d5378bbfd76a101e443aa2e0e450f56b707b2e0d38d8a0841e7b61b21d15b"), looks := false }, kinds := [], alts := [], laidByText := true, laidKinds := [.data], laidTests := true, laidLooks := .later }
def PeepholeRunsUptoCardSaid : Prop := Claim7.holds Tryd.pinned (.plain (OpenSpec.upto peepholeRunsSpec)) peepholeRunsUptoCard

/-- THE SECOND FORM's CARD OF 'backsteplaw32.PeepholeInverse'. -/
def peepholeInverseUptoCard : Claim7 := { stood := { row := peepholeInverseUptoRow, standIns := [], harness := (true, "f62d5378bbfd76a101e443aa2e0e450f56b707b2e0d38d8a0841e7b61b21d15b"), looks := false }, kinds := [], alts := [], laidByText := true, laidKinds := [.data], laidTests := true, laidLooks := .later }
def PeepholeInverseUptoCardSaid : Prop := Claim7.holds Tryd.pinned (.plain (OpenSpec.upto peepholeInverseSpec)) peepholeInverseUptoCard

/-- THE SECOND FORM's CARD OF 'backsteplaw32.PeepholeVanishes'. -/
def peepholeVanishesUptoCard : Claim7 := { stood := { row := peepholeVanishesUptoRow, standIns := [], harness := (true, "f62d5378bbfd76a101e443aa2e0e450f56b707b2e0d38d8a0841e7b61b21d15b"), looks := false }, kinds := [], alts := [], laidByText := true, laidKinds := [.data], laidTests := true, laidLooks := .later }
def PeepholeVanishesUptoCardSaid : Prop := Claim7.holds Tryd.pinned (.plain (OpenSpec.upto peepholeVanishesSpec)) peepholeVanishesUptoCard

/-- THE SECOND FORM's CARD OF 'backsteplaw32.PeepholeKeeps'. -/
def peepholeKeepsUptoCard : Claim7 := { stood := { row := peepholeKeepsUptoRow, standIns := [], harness := (true, "f62d5378bbfd76a101e443aa2e0e450f56b707b2e0d38d8a0841e7b61b21d15b"), looks := false }, kinds := [], alts := [], laidByText := true, laidKinds := [.data], laidTests := true, laidLooks := .later }
def PeepholeKeepsUptoCardSaid : Prop := Claim7.holds Tryd.pinned (.plain (OpenSpec.upto peepholeKeepsSpec)) peepholeKeepsUptoCard
end Rows
end Go.Proofs.YtkfmhmkeikhdbaaDoor
