/- The table of the instructions as plain lists, and the contracts of the functions that look an opcode up. -/
import Derived.Test.YtfhojpnofmlkdaaDoorRows
import Derived.WalkKit
import Derived.ProofKit
import Derived.OpenShut
import Derived.Below
import Derived.Lib.Hide
import Derived.Outline
namespace Go.Proofs.YtfhojpnofmlkdaaDoor
open Go.ChangeShapes Go.WideShapes Go.ChangeAt Go.RowKit
set_option linter.unusedSimpArgs false
set_option linter.unusedVariables false
set_option maxRecDepth 100000
def mnL : List (List UInt8) := [[110, 111, 112], [97, 100, 100], [115, 117, 98], [120, 111, 114], [97, 100, 100, 105], [115, 117, 98, 105], [120, 111, 114, 105], [115, 119, 97, 112], [110, 101, 103], [99, 97, 108, 99], [109, 101, 109], [105, 100, 120], [112, 117, 115, 104], [112, 111, 112], [116, 111, 112], [115, 105, 122, 101], [115, 119, 97, 112, 115], [114, 101, 97, 100], [117, 110, 114, 101, 97, 100], [119, 114, 105, 116, 101], [117, 110, 119, 114, 105, 116, 101], [122, 101, 114, 111], [106, 109, 112], [106, 109, 112, 122], [106, 109, 112, 110], [108, 97, 110, 100], [108, 97, 110, 100, 122], [108, 97, 110, 100, 110], [102, 114, 97, 109, 101], [117, 110, 102, 114, 97, 109, 101], [99, 97, 108, 108], [117, 110, 99, 97, 108, 108], [115, 116, 97, 114, 116], [101, 110, 100], [104, 97, 108, 116]]
def opL : List (List UInt8) := [[], [114, 114], [114, 114], [114, 114], [114, 110], [114, 110], [114, 110], [114, 114], [114], [114, 114, 114, 111], [114, 107], [114, 114, 107, 107], [114, 107], [114, 107], [114, 107], [114, 107], [107, 107], [114], [114], [114], [114], [114, 101], [116], [114, 116], [114, 116], [116], [114, 116], [114, 116], [107, 107], [107, 107], [116], [116], [116], [116], []]
def mnS (k : Int) : ByteArray := ⟨(mnL.getD k.toNat []).toArray⟩
def opS (k : Int) : ByteArray := ⟨(opL.getD k.toNat []).toArray⟩
theorem mnS_none (k : Int) (h : 35 ≤ k) : mnS k = ⟨#[]⟩ := by
  have hl : mnL.length = 35 := rfl
  have e : mnL.getD k.toNat [] = [] := by rw [List.getD_eq_getElem?_getD, List.getElem?_eq_none (by omega)]; rfl
  unfold mnS; rw [e]
theorem opS_none (k : Int) (h : 35 ≤ k) : opS k = ⟨#[]⟩ := by
  have hl : opL.length = 35 := rfl
  have e : opL.getD k.toNat [] = [] := by rw [List.getD_eq_getElem?_getD, List.getElem?_eq_none (by omega)]; rfl
  unfold opS; rw [e]
/-- the table lies in memory as the program's text lays it -/
def Laid (w : World) : Prop := ∀ n : Nat, n < 35 → w.cell? ⟨0, n * 2, none⟩ = some (.string (mnS n)) ∧ w.cell? ⟨0, n * 2 + 1, none⟩ = some (.string (opS n))
theorem Laid.pos {w : World} (h : Laid w) : 0 < w.heap.size := by
  have := (h 0 (by omega)).1
  exact World.block_lt_of_cell? w _ this
theorem Laid.below {w w' : World} (h : Laid w) (hb : Below w.heap.size w w') : Laid w' := fun n hn =>
  ⟨(hb.cell (p := ⟨0, n * 2, none⟩) h.pos).trans (h n hn).1, (hb.cell (p := ⟨0, n * 2 + 1, none⟩) h.pos).trans (h n hn).2⟩
set_option maxHeartbeats 1000000 in
theorem find_any (k : Int) (w : World) (h0 : 0 ≤ k ∧ k ≤ 255) (hL : Laid w) :
    Calls Tryd.prog 45 #[.int .u8 k] w fun e w' => e = .returned (.agg #[.string (mnS k), .string (opS k)]) ∧ Below w.heap.size w w' := by
  obtain ⟨n, rfl⟩ : ∃ n : Nat, k = n := ⟨k.toNat, by omega⟩
  have hp := hL.pos
  by_cases hk : n < 35
  · obtain ⟨c0, c1⟩ := hL n hk
    clear hL
    go_enter Tryd.func45, Tryd.ntmps45
    go_wp2
    exact bodyPost_ret (v := .agg #[.string (mnS n), .string (opS n)]) (by simp [results, Tryd.results45, go_sem]) rfl ⟨rfl, (Below.refl _ _).alloc (Nat.le_refl _) _⟩
  · have e1 := mnS_none n (by omega)
    have e2 := opS_none n (by omega)
    rw [e1, e2]
    clear e1 e2 hL
    go_enter Tryd.func45, Tryd.ntmps45
    go_wp2
    exact bodyPost_ret (v := .agg #[.string ⟨#[]⟩, .string ⟨#[]⟩]) (by simp [results, Tryd.results45, go_sem]) rfl ⟨rfl, (Below.refl _ _).alloc (Nat.le_refl _) _⟩
end Go.Proofs.YtfhojpnofmlkdaaDoor
