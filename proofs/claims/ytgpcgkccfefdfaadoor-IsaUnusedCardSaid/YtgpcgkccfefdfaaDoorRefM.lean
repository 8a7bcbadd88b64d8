/- The contract of the reference's mnemonics. -/
import Derived.Test.YtgpcgkccfefdfaaDoorRows
import Derived.WalkKit
import Derived.ProofKit
import Derived.OpenShut
import Derived.Below
import Derived.Lib.Hide
import Derived.Test.YtgpcgkccfefdfaaDoorTab
import Derived.Outline
namespace Go.Proofs.YtgpcgkccfefdfaaDoor
open Go.ChangeShapes Go.WideShapes Go.ChangeAt Go.RowKit
set_option linter.unusedSimpArgs false
set_option linter.unusedVariables false
set_option maxRecDepth 100000 in
theorem mn_cell (n : Nat) (hn : n < 35) (w : World) : (w.alloc (.cells #[.string ⟨#[110, 111, 112]⟩, .string ⟨#[97, 100, 100]⟩, .string ⟨#[115, 117, 98]⟩, .string ⟨#[120, 111, 114]⟩, .string ⟨#[97, 100, 100, 105]⟩, .string ⟨#[115, 117, 98, 105]⟩, .string ⟨#[120, 111, 114, 105]⟩, .string ⟨#[115, 119, 97, 112]⟩, .string ⟨#[110, 101, 103]⟩, .string ⟨#[99, 97, 108, 99]⟩, .string ⟨#[109, 101, 109]⟩, .string ⟨#[105, 100, 120]⟩, .string ⟨#[112, 117, 115, 104]⟩, .string ⟨#[112, 111, 112]⟩, .string ⟨#[116, 111, 112]⟩, .string ⟨#[115, 105, 122, 101]⟩, .string ⟨#[115, 119, 97, 112, 115]⟩, .string ⟨#[114, 101, 97, 100]⟩, .string ⟨#[117, 110, 114, 101, 97, 100]⟩, .string ⟨#[119, 114, 105, 116, 101]⟩, .string ⟨#[117, 110, 119, 114, 105, 116, 101]⟩, .string ⟨#[122, 101, 114, 111]⟩, .string ⟨#[106, 109, 112]⟩, .string ⟨#[106, 109, 112, 122]⟩, .string ⟨#[106, 109, 112, 110]⟩, .string ⟨#[108, 97, 110, 100]⟩, .string ⟨#[108, 97, 110, 100, 122]⟩, .string ⟨#[108, 97, 110, 100, 110]⟩, .string ⟨#[102, 114, 97, 109, 101]⟩, .string ⟨#[117, 110, 102, 114, 97, 109, 101]⟩, .string ⟨#[99, 97, 108, 108]⟩, .string ⟨#[117, 110, 99, 97, 108, 108]⟩, .string ⟨#[115, 116, 97, 114, 116]⟩, .string ⟨#[101, 110, 100]⟩, .string ⟨#[104, 97, 108, 116]⟩] 9)).cell? ⟨w.heap.size, n, none⟩ = some (.string (mnS n)) := by
  rw [World.cell?_alloc_at _ _ _ _ rfl]
  rcases (by omega : n = 0 ∨ n = 1 ∨ n = 2 ∨ n = 3 ∨ n = 4 ∨ n = 5 ∨ n = 6 ∨ n = 7 ∨ n = 8 ∨ n = 9 ∨ n = 10 ∨ n = 11 ∨ n = 12 ∨ n = 13 ∨ n = 14 ∨ n = 15 ∨ n = 16 ∨ n = 17 ∨ n = 18 ∨ n = 19 ∨ n = 20 ∨ n = 21 ∨ n = 22 ∨ n = 23 ∨ n = 24 ∨ n = 25 ∨ n = 26 ∨ n = 27 ∨ n = 28 ∨ n = 29 ∨ n = 30 ∨ n = 31 ∨ n = 32 ∨ n = 33 ∨ n = 34) with rfl | rfl | rfl | rfl | rfl | rfl | rfl | rfl | rfl | rfl | rfl | rfl | rfl | rfl | rfl | rfl | rfl | rfl | rfl | rfl | rfl | rfl | rfl | rfl | rfl | rfl | rfl | rfl | rfl | rfl | rfl | rfl | rfl | rfl | rfl <;> rfl
set_option maxHeartbeats 4000000 in
set_option maxRecDepth 100000 in
theorem refMnemonic_any (k : Int) (w : World) (h0 : 0 ≤ k ∧ k ≤ 255) :
    Calls Tryd.prog 18 #[.int .u8 k] w fun e w' => e = .returned (.string (mnS k)) ∧ Below w.heap.size w w' := by
  obtain ⟨n, rfl⟩ : ∃ n : Nat, k = n := ⟨k.toNat, by omega⟩
  by_cases hk : n < 35
  · have hc := mn_cell n hk w
    go_enter Tryd.func18, Tryd.ntmps18
    go_wp2
    go_ret
    exact ⟨rfl, (Below.refl _ _).alloc (Nat.le_refl _) _⟩
  · have e : mnS (n : Int) = ⟨#[]⟩ := mnS_none _ (by omega)
    rw [e]; clear e
    go_enter Tryd.func18, Tryd.ntmps18; go_wp2; go_ret; exact ⟨rfl, (Below.refl _ _).alloc (Nat.le_refl _) _⟩
end Go.Proofs.YtgpcgkccfefdfaaDoor
