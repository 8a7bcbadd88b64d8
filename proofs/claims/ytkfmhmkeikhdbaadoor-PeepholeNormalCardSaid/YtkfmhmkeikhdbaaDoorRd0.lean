/- Plain values of this stage. -/
import Derived.Test.YtkfmhmkeikhdbaaDoorBrg
namespace Go.Proofs.YtkfmhmkeikhdbaaDoor
open Go.Proofs.YtkfmhmkeikhdbaaDoor.Pv Go.RowKit
set_option maxRecDepth 100000
set_option maxHeartbeats 4000000
set_option linter.unusedSimpArgs false
set_option linter.unusedVariables false
def ni (n : Nat) : PV := .int .i64 (n : Int)
def I (n : Int) : PV := .int .i64 n
def code (l : List Ins) : PV := .lst 5 (l.map Ins.pv)
def z5 : List PV := [.int .u8 0, .int .i64 0, .int .i64 0, .int .i64 0, .int .i64 0]
def zimg : PV := .agg [.nils, .int .i64 0, .int .i64 0]

end Go.Proofs.YtkfmhmkeikhdbaaDoor
