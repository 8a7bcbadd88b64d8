/- Contracts: Invert. -/
import Derived.Test.YtalkhkhnpplofaaDoorRows
import Derived.WalkKit
import Derived.ProofKit
import Derived.OpenShut
import Derived.Below
import Derived.Lib.Hide
import Derived.Outline
import Derived.WalkLawsBesides
import Derived.WalkSpells
import Derived.WalkSmall
import Derived.IntWalk
import Derived.Deep.QuietTactic
import Derived.BigQuiet
import Derived.Deep.RegionHeld3
import Derived.StillTailTactics
import Derived.Handy
import Derived.Deep.Cut
import Derived.Deep.OwnRows
import Derived.Deep.RegionWith
import Derived.Test.YtalkhkhnpplofaaDoorInv0
namespace Go.Proofs.YtalkhkhnpplofaaDoor
open Go.ChangeShapes Go.WideShapes Go.ChangeAt Go.RowKit
set_option linter.unusedSimpArgs false
set_option linter.unusedVariables false

set_option maxRecDepth 100000 in
set_option maxHeartbeats 1600000 in
theorem invert_bad (a : Option Addr) (n cap : Nat) (m s : Int) (l : List Ins) (w : World) (h : SliceC w a l) (hn : l.length = n) (hw : WF l) (hL : Laid w) (hn2 : n ≤ 300) (he : ckE l m s ≠ 0) :
    Calls Tryd.prog 21 #[.agg #[.slice a n cap, .int .i64 m, .int .i64 s]] w fun e w' => e = .returned (.tuple #[.agg #[.slice none 0 0, .int .i64 0, .int .i64 0], .int .i64 (ckE l m s)]) ∧ Below w.heap.size w w' := by
  have HA : Hid (Below w.heap.size w ((w.alloc (.cells #[.slice a n cap, .int .i64 m, .int .i64 s] 24)).alloc (.cells #[.slice none 0 0, .int .i64 0, .int .i64 0] 24))) := Lib.hid (((Below.refl _ _).alloc (Nat.le_refl _) _).alloc (by simp) _)
  have HS := Lib.hid h
  have HL := Lib.hid hL
  have hb0 : (ckE l m s != 0) = true := by simpa using he
  have r0 : ((w.alloc (.cells #[.slice a n cap, .int .i64 m, .int .i64 s] 24)).alloc (.cells #[.slice none 0 0, .int .i64 0, .int .i64 0] 24)).cell? ⟨w.heap.size + 1, 0, none⟩ = some (.slice none 0 0) := by go_simp
  have r1 : ((w.alloc (.cells #[.slice a n cap, .int .i64 m, .int .i64 s] 24)).alloc (.cells #[.slice none 0 0, .int .i64 0, .int .i64 0] 24)).cell? ⟨w.heap.size + 1, 1, none⟩ = some (.int .i64 0) := by go_simp
  have r2 : ((w.alloc (.cells #[.slice a n cap, .int .i64 m, .int .i64 s] 24)).alloc (.cells #[.slice none 0 0, .int .i64 0, .int .i64 0] 24)).cell? ⟨w.heap.size + 1, 2, none⟩ = some (.int .i64 0) := by go_simp
  have f0 : ((w.alloc (.cells #[.slice a n cap, .int .i64 m, .int .i64 s] 24)).alloc (.cells #[.slice none 0 0, .int .i64 0, .int .i64 0] 24)).frozen? ⟨w.heap.size + 1, 0, none⟩ = false := by go_simp
  have f1 : ((w.alloc (.cells #[.slice a n cap, .int .i64 m, .int .i64 s] 24)).alloc (.cells #[.slice none 0 0, .int .i64 0, .int .i64 0] 24)).frozen? ⟨w.heap.size + 1, 1, none⟩ = false := by go_simp
  have f2 : ((w.alloc (.cells #[.slice a n cap, .int .i64 m, .int .i64 s] 24)).alloc (.cells #[.slice none 0 0, .int .i64 0, .int .i64 0] 24)).frozen? ⟨w.heap.size + 1, 2, none⟩ = false := by go_simp
  clear h hL he
  go_enter Tryd.func21, Tryd.ntmps21
  go_wp2_with (go_at_call 14; refine (check_any a n cap m s l _ (HS.out.below HA.out) hn hw (HL.out.below HA.out) hn2).mono ?_; rintro e w2 ⟨rfl, hb⟩; have HB := Lib.hid (below_on HA.out hb); replace f0 := frozen_on hb r0 f0; replace f1 := frozen_on hb r1 f1; replace f2 := frozen_on hb r2 f2; replace r0 := cell_on hb r0; replace r1 := cell_on hb r1; replace r2 := cell_on hb r2; clear hb)
  have R := set3 w2 (w.heap.size + 1) (.slice none 0 0) (.int .i64 0) (.int .i64 0) _ _ _ r0 r1 r2
  obtain ⟨z0, z1, z2⟩ := R
  exact bodyPost_ret (v := .tuple #[.agg #[.slice none 0 0, .int .i64 0, .int .i64 0], .int .i64 (ckE l m s)]) (by simp [results, Tryd.results21, go_sem, z0, z1, z2]) rfl ⟨rfl, ((HB.out.setCell (by show w.heap.size ≤ w.heap.size + 1; omega) _).setCell (by show w.heap.size ≤ w.heap.size + 1; omega) _).setCell (by show w.heap.size ≤ w.heap.size + 1; omega) _⟩
end Go.Proofs.YtalkhkhnpplofaaDoor
