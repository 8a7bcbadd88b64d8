/-
  NARROWER THAN 'FOR EVERY INPUT', by the rows' own cells (each row's printed sentence says how): CpuStep: laid · CpuBack: laid · CpuUndo: laid · CpuRun: laid · CpuTurn: laid · CpuInverse: laid · CpuNew: laid · CpuFits: laid · CpuClone: laid.
  DERIVED. THE GIVEN ROWS OF THIS SEAT. 9 by the template 'for every input the law returns true; each argument reads behind the call as it read before'; 0 by the template 'total and deterministic' (their statements: YtfhojpnofmlkdaaDoorTotals.lean).
  GIVEN WITH THE SEED: the statements are not yours to turn. If you find one false, say at which input.
  Laid BY PROGRAM, IN A SANDBOX (cutbox-rows.mjs): the forced cells as the released guide's own fill.sh prints them over the translation 46c80bce984b5c89… (all of the seat's roots in one cut). By AI agents, Wed Nov 11 2026. No macro, syntax, notation, axiom, sorry.
-/
import Derived.Test.YtfhojpnofmlkdaaDoorChecked
import GoSem.Claim
import GoSem.ClaimJoined
import GoSem.ClaimMapViews
import Derived.JoinedTies
import Derived.KernelRfl
namespace Go.Proofs.YtfhojpnofmlkdaaDoor
/- THE CELL 'sum', in the pinned program and in every row, IS THE sha256 OF THE DUMP (.gsa) THAT YtfhojpnofmlkdaaDoorProg.lean LOADS. Nothing in Lean hashes anything: it is a label: what it is worth is what the hold of that sum in a sandbox is worth. -/
noncomputable def Tryd.pinned : Pinned := { name := "ytfhojpnofmlkdaadoor", sum := "46c80bce984b5c895e182a0cefffeff58f8b3bbe149a493a9beb64c4137ad2f3", checked := Tryd.checked }
namespace Rows
def none {H : Type} : Left H := { results := [], args := [] }

/- WHAT THE LISTED PACKAGE-LEVEL VARIABLES READ AS WHEN THE CALL BEGINS. Each datum BY PROGRAM (the guide's laid-datum.mjs) off the statement by which the dump's own 'gosem.cut.vars' lays the variable. In a bare row this is a premise. The card (YtfhojpnofmlkdaaDoorCards.lean) ties it to the program's text. -/
def laid_backstep_isa_table {H : Type} : DataW H := .agg [.agg [.lit (.string [110, 111, 112]), .lit (.string [])], .agg [.lit (.string [97, 100, 100]), .lit (.string [114, 114])], .agg [.lit (.string [115, 117, 98]), .lit (.string [114, 114])], .agg [.lit (.string [120, 111, 114]), .lit (.string [114, 114])], .agg [.lit (.string [97, 100, 100, 105]), .lit (.string [114, 110])], .agg [.lit (.string [115, 117, 98, 105]), .lit (.string [114, 110])], .agg [.lit (.string [120, 111, 114, 105]), .lit (.string [114, 110])], .agg [.lit (.string [115, 119, 97, 112]), .lit (.string [114, 114])], .agg [.lit (.string [110, 101, 103]), .lit (.string [114])], .agg [.lit (.string [99, 97, 108, 99]), .lit (.string [114, 114, 114, 111])], .agg [.lit (.string [109, 101, 109]), .lit (.string [114, 107])], .agg [.lit (.string [105, 100, 120]), .lit (.string [114, 114, 107, 107])], .agg [.lit (.string [112, 117, 115, 104]), .lit (.string [114, 107])], .agg [.lit (.string [112, 111, 112]), .lit (.string [114, 107])], .agg [.lit (.string [116, 111, 112]), .lit (.string [114, 107])], .agg [.lit (.string [115, 105, 122, 101]), .lit (.string [114, 107])], .agg [.lit (.string [115, 119, 97, 112, 115]), .lit (.string [107, 107])], .agg [.lit (.string [114, 101, 97, 100]), .lit (.string [114])], .agg [.lit (.string [117, 110, 114, 101, 97, 100]), .lit (.string [114])], .agg [.lit (.string [119, 114, 105, 116, 101]), .lit (.string [114])], .agg [.lit (.string [117, 110, 119, 114, 105, 116, 101]), .lit (.string [114])], .agg [.lit (.string [122, 101, 114, 111]), .lit (.string [114, 101])], .agg [.lit (.string [106, 109, 112]), .lit (.string [116])], .agg [.lit (.string [106, 109, 112, 122]), .lit (.string [114, 116])], .agg [.lit (.string [106, 109, 112, 110]), .lit (.string [114, 116])], .agg [.lit (.string [108, 97, 110, 100]), .lit (.string [116])], .agg [.lit (.string [108, 97, 110, 100, 122]), .lit (.string [114, 116])], .agg [.lit (.string [108, 97, 110, 100, 110]), .lit (.string [114, 116])], .agg [.lit (.string [102, 114, 97, 109, 101]), .lit (.string [107, 107])], .agg [.lit (.string [117, 110, 102, 114, 97, 109, 101]), .lit (.string [107, 107])], .agg [.lit (.string [99, 97, 108, 108]), .lit (.string [116])], .agg [.lit (.string [117, 110, 99, 97, 108, 108]), .lit (.string [116])], .agg [.lit (.string [115, 116, 97, 114, 116]), .lit (.string [116])], .agg [.lit (.string [101, 110, 100]), .lit (.string [116])], .agg [.lit (.string [104, 97, 108, 116]), .lit (.string [])]]

/-- 'backsteplaw24.CpuStep': WHATEVER THE INPUT: true; the input reads as it did. -/
def cpuStepSpec : ChangeSpec := { name := "cpuStep", fn := fun _ => fun
  | [d1, d2] => { results := [.lit (.bool true)], args := [d1, d2] }
  | _ => none }
def cpuStepRow : OpenClaim := { program := "ytfhojpnofmlkdaadoor", sum := "46c80bce984b5c895e182a0cefffeff58f8b3bbe149a493a9beb64c4137ad2f3", func := "backstep/backsteplaw24.CpuStep", spec := "cpuStep", inPlace := ["internal/bytealg.IndexByteString", "slices.overlaps[int]"], unfollowed := true, recurses := true, named := ["backstep/isa.table"], apart := false, laid := [("backstep/isa.table", laid_backstep_isa_table)] }
def CpuStepSaid : Prop := cpuStepRow.holds Tryd.pinned (OpenSpec.ofChange cpuStepSpec)

/-- ITS FALSE NEIGHBOUR: 'it returns false'. Refute it at one input. -/
def cpuStepWrong : ChangeSpec := { name := "cpuStep", fn := fun _ => fun
  | [d1, d2] => { results := [.lit (.bool false)], args := [d1, d2] }
  | _ => none }
def CpuStepWrongFalsely : Prop := cpuStepRow.holds Tryd.pinned (OpenSpec.ofChange cpuStepWrong)

/-- 'backsteplaw24.CpuBack': WHATEVER THE INPUT: true; the input reads as it did. -/
def cpuBackSpec : ChangeSpec := { name := "cpuBack", fn := fun _ => fun
  | [d1, d2] => { results := [.lit (.bool true)], args := [d1, d2] }
  | _ => none }
def cpuBackRow : OpenClaim := { program := "ytfhojpnofmlkdaadoor", sum := "46c80bce984b5c895e182a0cefffeff58f8b3bbe149a493a9beb64c4137ad2f3", func := "backstep/backsteplaw24.CpuBack", spec := "cpuBack", inPlace := ["internal/bytealg.IndexByteString", "slices.overlaps[int]"], unfollowed := true, recurses := true, named := ["backstep/isa.table"], apart := false, laid := [("backstep/isa.table", laid_backstep_isa_table)] }
def CpuBackSaid : Prop := cpuBackRow.holds Tryd.pinned (OpenSpec.ofChange cpuBackSpec)

/-- ITS FALSE NEIGHBOUR: 'it returns false'. Refute it at one input. -/
def cpuBackWrong : ChangeSpec := { name := "cpuBack", fn := fun _ => fun
  | [d1, d2] => { results := [.lit (.bool false)], args := [d1, d2] }
  | _ => none }
def CpuBackWrongFalsely : Prop := cpuBackRow.holds Tryd.pinned (OpenSpec.ofChange cpuBackWrong)

/-- 'backsteplaw24.CpuUndo': WHATEVER THE INPUT: true; the input reads as it did. -/
def cpuUndoSpec : ChangeSpec := { name := "cpuUndo", fn := fun _ => fun
  | [d1, d2] => { results := [.lit (.bool true)], args := [d1, d2] }
  | _ => none }
def cpuUndoRow : OpenClaim := { program := "ytfhojpnofmlkdaadoor", sum := "46c80bce984b5c895e182a0cefffeff58f8b3bbe149a493a9beb64c4137ad2f3", func := "backstep/backsteplaw24.CpuUndo", spec := "cpuUndo", inPlace := ["internal/bytealg.IndexByteString", "slices.overlaps[int]"], unfollowed := true, recurses := true, named := ["backstep/isa.table"], apart := false, laid := [("backstep/isa.table", laid_backstep_isa_table)] }
def CpuUndoSaid : Prop := cpuUndoRow.holds Tryd.pinned (OpenSpec.ofChange cpuUndoSpec)

/-- ITS FALSE NEIGHBOUR: 'it returns false'. Refute it at one input. -/
def cpuUndoWrong : ChangeSpec := { name := "cpuUndo", fn := fun _ => fun
  | [d1, d2] => { results := [.lit (.bool false)], args := [d1, d2] }
  | _ => none }
def CpuUndoWrongFalsely : Prop := cpuUndoRow.holds Tryd.pinned (OpenSpec.ofChange cpuUndoWrong)

/-- 'backsteplaw24.CpuRun': WHATEVER THE INPUT: true; the input reads as it did. -/
def cpuRunSpec : ChangeSpec := { name := "cpuRun", fn := fun _ => fun
  | [d1, d2, d3] => { results := [.lit (.bool true)], args := [d1, d2, d3] }
  | _ => none }
def cpuRunRow : OpenClaim := { program := "ytfhojpnofmlkdaadoor", sum := "46c80bce984b5c895e182a0cefffeff58f8b3bbe149a493a9beb64c4137ad2f3", func := "backstep/backsteplaw24.CpuRun", spec := "cpuRun", inPlace := ["internal/bytealg.IndexByteString", "slices.overlaps[int]"], unfollowed := true, recurses := true, named := ["backstep/isa.table"], apart := false, laid := [("backstep/isa.table", laid_backstep_isa_table)] }
def CpuRunSaid : Prop := cpuRunRow.holds Tryd.pinned (OpenSpec.ofChange cpuRunSpec)

/-- ITS FALSE NEIGHBOUR: 'it returns false'. Refute it at one input. -/
def cpuRunWrong : ChangeSpec := { name := "cpuRun", fn := fun _ => fun
  | [d1, d2, d3] => { results := [.lit (.bool false)], args := [d1, d2, d3] }
  | _ => none }
def CpuRunWrongFalsely : Prop := cpuRunRow.holds Tryd.pinned (OpenSpec.ofChange cpuRunWrong)

/-- 'backsteplaw24.CpuTurn': WHATEVER THE INPUT: true; the input reads as it did. -/
def cpuTurnSpec : ChangeSpec := { name := "cpuTurn", fn := fun _ => fun
  | [d1, d2] => { results := [.lit (.bool true)], args := [d1, d2] }
  | _ => none }
def cpuTurnRow : OpenClaim := { program := "ytfhojpnofmlkdaadoor", sum := "46c80bce984b5c895e182a0cefffeff58f8b3bbe149a493a9beb64c4137ad2f3", func := "backstep/backsteplaw24.CpuTurn", spec := "cpuTurn", inPlace := ["internal/bytealg.IndexByteString", "slices.overlaps[int]"], unfollowed := true, recurses := true, named := ["backstep/isa.table"], apart := false, laid := [("backstep/isa.table", laid_backstep_isa_table)] }
def CpuTurnSaid : Prop := cpuTurnRow.holds Tryd.pinned (OpenSpec.ofChange cpuTurnSpec)

/-- ITS FALSE NEIGHBOUR: 'it returns false'. Refute it at one input. -/
def cpuTurnWrong : ChangeSpec := { name := "cpuTurn", fn := fun _ => fun
  | [d1, d2] => { results := [.lit (.bool false)], args := [d1, d2] }
  | _ => none }
def CpuTurnWrongFalsely : Prop := cpuTurnRow.holds Tryd.pinned (OpenSpec.ofChange cpuTurnWrong)

/-- 'backsteplaw24.CpuInverse': WHATEVER THE INPUT: true; the input reads as it did. -/
def cpuInverseSpec : ChangeSpec := { name := "cpuInverse", fn := fun _ => fun
  | [d1, d2, d3] => { results := [.lit (.bool true)], args := [d1, d2, d3] }
  | _ => none }
def cpuInverseRow : OpenClaim := { program := "ytfhojpnofmlkdaadoor", sum := "46c80bce984b5c895e182a0cefffeff58f8b3bbe149a493a9beb64c4137ad2f3", func := "backstep/backsteplaw24.CpuInverse", spec := "cpuInverse", inPlace := ["internal/bytealg.IndexByteString", "slices.overlaps[int]"], unfollowed := true, recurses := true, named := ["backstep/isa.table"], apart := false, laid := [("backstep/isa.table", laid_backstep_isa_table)] }
def CpuInverseSaid : Prop := cpuInverseRow.holds Tryd.pinned (OpenSpec.ofChange cpuInverseSpec)

/-- ITS FALSE NEIGHBOUR: 'it returns false'. Refute it at one input. -/
def cpuInverseWrong : ChangeSpec := { name := "cpuInverse", fn := fun _ => fun
  | [d1, d2, d3] => { results := [.lit (.bool false)], args := [d1, d2, d3] }
  | _ => none }
def CpuInverseWrongFalsely : Prop := cpuInverseRow.holds Tryd.pinned (OpenSpec.ofChange cpuInverseWrong)

/-- 'backsteplaw24.CpuNew': WHATEVER THE INPUT: true; the input reads as it did. -/
def cpuNewSpec : ChangeSpec := { name := "cpuNew", fn := fun _ => fun
  | [d1, d2] => { results := [.lit (.bool true)], args := [d1, d2] }
  | _ => none }
def cpuNewRow : OpenClaim := { program := "ytfhojpnofmlkdaadoor", sum := "46c80bce984b5c895e182a0cefffeff58f8b3bbe149a493a9beb64c4137ad2f3", func := "backstep/backsteplaw24.CpuNew", spec := "cpuNew", inPlace := ["internal/bytealg.IndexByteString", "slices.overlaps[int]"], unfollowed := true, recurses := true, named := ["backstep/isa.table"], apart := false, laid := [("backstep/isa.table", laid_backstep_isa_table)] }
def CpuNewSaid : Prop := cpuNewRow.holds Tryd.pinned (OpenSpec.ofChange cpuNewSpec)

/-- ITS FALSE NEIGHBOUR: 'it returns false'. Refute it at one input. -/
def cpuNewWrong : ChangeSpec := { name := "cpuNew", fn := fun _ => fun
  | [d1, d2] => { results := [.lit (.bool false)], args := [d1, d2] }
  | _ => none }
def CpuNewWrongFalsely : Prop := cpuNewRow.holds Tryd.pinned (OpenSpec.ofChange cpuNewWrong)

/-- 'backsteplaw24.CpuFits': WHATEVER THE INPUT: true; the input reads as it did. -/
def cpuFitsSpec : ChangeSpec := { name := "cpuFits", fn := fun _ => fun
  | [d1, d2] => { results := [.lit (.bool true)], args := [d1, d2] }
  | _ => none }
def cpuFitsRow : OpenClaim := { program := "ytfhojpnofmlkdaadoor", sum := "46c80bce984b5c895e182a0cefffeff58f8b3bbe149a493a9beb64c4137ad2f3", func := "backstep/backsteplaw24.CpuFits", spec := "cpuFits", inPlace := ["internal/bytealg.IndexByteString", "slices.overlaps[int]"], unfollowed := true, recurses := true, named := ["backstep/isa.table"], apart := false, laid := [("backstep/isa.table", laid_backstep_isa_table)] }
def CpuFitsSaid : Prop := cpuFitsRow.holds Tryd.pinned (OpenSpec.ofChange cpuFitsSpec)

/-- ITS FALSE NEIGHBOUR: 'it returns false'. Refute it at one input. -/
def cpuFitsWrong : ChangeSpec := { name := "cpuFits", fn := fun _ => fun
  | [d1, d2] => { results := [.lit (.bool false)], args := [d1, d2] }
  | _ => none }
def CpuFitsWrongFalsely : Prop := cpuFitsRow.holds Tryd.pinned (OpenSpec.ofChange cpuFitsWrong)

/-- 'backsteplaw24.CpuClone': WHATEVER THE INPUT: true; the input reads as it did. -/
def cpuCloneSpec : ChangeSpec := { name := "cpuClone", fn := fun _ => fun
  | [d1, d2, d3] => { results := [.lit (.bool true)], args := [d1, d2, d3] }
  | _ => none }
def cpuCloneRow : OpenClaim := { program := "ytfhojpnofmlkdaadoor", sum := "46c80bce984b5c895e182a0cefffeff58f8b3bbe149a493a9beb64c4137ad2f3", func := "backstep/backsteplaw24.CpuClone", spec := "cpuClone", inPlace := ["internal/bytealg.IndexByteString", "slices.overlaps[int]"], unfollowed := true, recurses := true, named := ["backstep/isa.table"], apart := false, laid := [("backstep/isa.table", laid_backstep_isa_table)] }
def CpuCloneSaid : Prop := cpuCloneRow.holds Tryd.pinned (OpenSpec.ofChange cpuCloneSpec)

/-- ITS FALSE NEIGHBOUR: 'it returns false'. Refute it at one input. -/
def cpuCloneWrong : ChangeSpec := { name := "cpuClone", fn := fun _ => fun
  | [d1, d2, d3] => { results := [.lit (.bool false)], args := [d1, d2, d3] }
  | _ => none }
def CpuCloneWrongFalsely : Prop := cpuCloneRow.holds Tryd.pinned (OpenSpec.ofChange cpuCloneWrong)

/- THE SECOND FORM. 'bulk': how many values and letters a reading holds, each counted each time it is reached (what is shared counts as often as it is met; a slice's spare places count too). A statement '..UptoSaid' is the law's where the arguments, and the package variables that the reading takes, are together of bulk at most 1048576: NARROWER than '..Said'. Prove '..Said' where nothing that the law and all that it calls make is longer than what came in: it says more and counts as full. Else prove '..UptoSaid'. A law counts once. -/
mutual
def uptoBulk {H : Type} : DataW H → Nat
  | .lit (.string bytes) => bytes.length + 1
  | .lit _ => 1
  | .nil => 1
  | .ptr d => uptoBulk d + 1
  | .slice elems spare => uptoBulkAll elems + uptoBulkAll spare + 1
  | .agg parts => uptoBulkAll parts + 1
  | .iface _ d => uptoBulk d + 1
  | .map entries => uptoBulkEntries entries + 1
  | .held _ => 1
def uptoBulkAll {H : Type} : List (DataW H) → Nat
  | [] => 0
  | d :: r => uptoBulk d + uptoBulkAll r
def uptoBulkEntries {H : Type} : List (Lit × DataW H) → Nat
  | [] => 0
  | x :: r => uptoBulkEntry x + uptoBulkEntries r
def uptoBulkEntry {H : Type} : Lit × DataW H → Nat
  | (.string bytes, d) => bytes.length + uptoBulk d + 1
  | (_, d) => uptoBulk d + 1
 end
def uptoSmall : (H : Type) → List (DataW H) → Bool := fun _ ds => decide (uptoBulkAll ds ≤ 1048576)
def OpenSpec.upto (s : _root_.Go.ChangeSpec) : _root_.Go.OpenSpec := { _root_.Go.OpenSpec.ofChange s with cond := some uptoSmall }

/-- 'backsteplaw24.CpuStep', WHERE WHAT IT READS IS OF BULK AT MOST 1048576: true; the input reads as it did. -/
def cpuStepUptoRow : OpenClaim := { program := "ytfhojpnofmlkdaadoor", sum := "46c80bce984b5c895e182a0cefffeff58f8b3bbe149a493a9beb64c4137ad2f3", func := "backstep/backsteplaw24.CpuStep", spec := "cpuStep", inPlace := ["internal/bytealg.IndexByteString", "slices.overlaps[int]"], unfollowed := true, recurses := true, named := ["backstep/isa.table"], apart := false, laid := [("backstep/isa.table", laid_backstep_isa_table)], narrowed := true }
def CpuStepUptoSaid : Prop := cpuStepUptoRow.holds Tryd.pinned (OpenSpec.upto cpuStepSpec)

/-- 'backsteplaw24.CpuBack', WHERE WHAT IT READS IS OF BULK AT MOST 1048576: true; the input reads as it did. -/
def cpuBackUptoRow : OpenClaim := { program := "ytfhojpnofmlkdaadoor", sum := "46c80bce984b5c895e182a0cefffeff58f8b3bbe149a493a9beb64c4137ad2f3", func := "backstep/backsteplaw24.CpuBack", spec := "cpuBack", inPlace := ["internal/bytealg.IndexByteString", "slices.overlaps[int]"], unfollowed := true, recurses := true, named := ["backstep/isa.table"], apart := false, laid := [("backstep/isa.table", laid_backstep_isa_table)], narrowed := true }
def CpuBackUptoSaid : Prop := cpuBackUptoRow.holds Tryd.pinned (OpenSpec.upto cpuBackSpec)

/-- 'backsteplaw24.CpuUndo', WHERE WHAT IT READS IS OF BULK AT MOST 1048576: true; the input reads as it did. -/
def cpuUndoUptoRow : OpenClaim := { program := "ytfhojpnofmlkdaadoor", sum := "46c80bce984b5c895e182a0cefffeff58f8b3bbe149a493a9beb64c4137ad2f3", func := "backstep/backsteplaw24.CpuUndo", spec := "cpuUndo", inPlace := ["internal/bytealg.IndexByteString", "slices.overlaps[int]"], unfollowed := true, recurses := true, named := ["backstep/isa.table"], apart := false, laid := [("backstep/isa.table", laid_backstep_isa_table)], narrowed := true }
def CpuUndoUptoSaid : Prop := cpuUndoUptoRow.holds Tryd.pinned (OpenSpec.upto cpuUndoSpec)

/-- 'backsteplaw24.CpuRun', WHERE WHAT IT READS IS OF BULK AT MOST 1048576: true; the input reads as it did. -/
def cpuRunUptoRow : OpenClaim := { program := "ytfhojpnofmlkdaadoor", sum := "46c80bce984b5c895e182a0cefffeff58f8b3bbe149a493a9beb64c4137ad2f3", func := "backstep/backsteplaw24.CpuRun", spec := "cpuRun", inPlace := ["internal/bytealg.IndexByteString", "slices.overlaps[int]"], unfollowed := true, recurses := true, named := ["backstep/isa.table"], apart := false, laid := [("backstep/isa.table", laid_backstep_isa_table)], narrowed := true }
def CpuRunUptoSaid : Prop := cpuRunUptoRow.holds Tryd.pinned (OpenSpec.upto cpuRunSpec)

/-- 'backsteplaw24.CpuTurn', WHERE WHAT IT READS IS OF BULK AT MOST 1048576: true; the input reads as it did. -/
def cpuTurnUptoRow : OpenClaim := { program := "ytfhojpnofmlkdaadoor", sum := "46c80bce984b5c895e182a0cefffeff58f8b3bbe149a493a9beb64c4137ad2f3", func := "backstep/backsteplaw24.CpuTurn", spec := "cpuTurn", inPlace := ["internal/bytealg.IndexByteString", "slices.overlaps[int]"], unfollowed := true, recurses := true, named := ["backstep/isa.table"], apart := false, laid := [("backstep/isa.table", laid_backstep_isa_table)], narrowed := true }
def CpuTurnUptoSaid : Prop := cpuTurnUptoRow.holds Tryd.pinned (OpenSpec.upto cpuTurnSpec)

/-- 'backsteplaw24.CpuInverse', WHERE WHAT IT READS IS OF BULK AT MOST 1048576: true; the input reads as it did. -/
def cpuInverseUptoRow : OpenClaim := { program := "ytfhojpnofmlkdaadoor", sum := "46c80bce984b5c895e182a0cefffeff58f8b3bbe149a493a9beb64c4137ad2f3", func := "backstep/backsteplaw24.CpuInverse", spec := "cpuInverse", inPlace := ["internal/bytealg.IndexByteString", "slices.overlaps[int]"], unfollowed := true, recurses := true, named := ["backstep/isa.table"], apart := false, laid := [("backstep/isa.table", laid_backstep_isa_table)], narrowed := true }
def CpuInverseUptoSaid : Prop := cpuInverseUptoRow.holds Tryd.pinned (OpenSpec.upto cpuInverseSpec)

/-- 'backsteplaw24.CpuNew', WHERE WHAT IT READS IS OF BULK AT MOST 1048576: true; the input reads as it did. -/
def cpuNewUptoRow : OpenClaim := { program := "ytfhojpnofmlkdaadoor", sum := "46c80bce984b5c895e182a0cefffeff58f8b3bbe149a493a9beb64c4137ad2f3", func := "backstep/backsteplaw24.CpuNew", spec := "cpuNew", inPlace := ["internal/bytealg.IndexByteString", "slices.overlaps[int]"], unfollowed := true, recurses := true, named := ["backstep/isa.table"], apart := false, laid := [("backstep/isa.table", laid_backstep_isa_table)], narrowed := true }
def CpuNewUptoSaid : Prop := cpuNewUptoRow.holds Tryd.pinned (OpenSpec.upto cpuNewSpec)

/-- 'backsteplaw24.CpuFits', WHERE WHAT IT READS IS OF BULK AT MOST 1048576: true; the input reads as it did. -/
def cpuFitsUptoRow : OpenClaim := { program := "ytfhojpnofmlkdaadoor", sum := "46c80bce984b5c895e182a0cefffeff58f8b3bbe149a493a9beb64c4137ad2f3", func := "backstep/backsteplaw24.CpuFits", spec := "cpuFits", inPlace := ["internal/bytealg.IndexByteString", "slices.overlaps[int]"], unfollowed := true, recurses := true, named := ["backstep/isa.table"], apart := false, laid := [("backstep/isa.table", laid_backstep_isa_table)], narrowed := true }
def CpuFitsUptoSaid : Prop := cpuFitsUptoRow.holds Tryd.pinned (OpenSpec.upto cpuFitsSpec)

/-- 'backsteplaw24.CpuClone', WHERE WHAT IT READS IS OF BULK AT MOST 1048576: true; the input reads as it did. -/
def cpuCloneUptoRow : OpenClaim := { program := "ytfhojpnofmlkdaadoor", sum := "46c80bce984b5c895e182a0cefffeff58f8b3bbe149a493a9beb64c4137ad2f3", func := "backstep/backsteplaw24.CpuClone", spec := "cpuClone", inPlace := ["internal/bytealg.IndexByteString", "slices.overlaps[int]"], unfollowed := true, recurses := true, named := ["backstep/isa.table"], apart := false, laid := [("backstep/isa.table", laid_backstep_isa_table)], narrowed := true }
def CpuCloneUptoSaid : Prop := cpuCloneUptoRow.holds Tryd.pinned (OpenSpec.upto cpuCloneSpec)

end Rows
end Go.Proofs.YtfhojpnofmlkdaaDoor
