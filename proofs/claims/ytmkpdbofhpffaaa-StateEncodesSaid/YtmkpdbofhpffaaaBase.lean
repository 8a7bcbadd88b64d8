/- How the program is read: the functions, the variables. -/
import Derived.Test.YtmkpdbofhpffaaaRows
import Derived.Test.YtmkpdbofhpffaaaPvB
import Derived.KernelRfl
namespace Go.Proofs.Ytmkpdbofhpffaaa
open Go.Proofs.Ytmkpdbofhpffaaa.Pv Go.RowKit
set_option linter.unusedSimpArgs false
set_option linter.unusedVariables false
set_option maxRecDepth 100000
theorem laidOut : laidOutB Try.prog = true := by kernel_rfl
theorem lay : layB Try.prog = true := by kernel_rfl
def X : Cfg := { G := fun g => [], ext := fun _ => none, sh := fun f => [35, 56, 39, 40, 41, 44, 45, 46, 47, 48, 49, 50, 57, 58, 59, 62, 63, 64, 68, 2000040, 2000041, 2000044, 2000045, 2000046, 2000047, 2000048, 2000049, 2000050, 2000057, 2000058, 2000059, 2000062, 2000063, 2000064, 2000068, 3000001, 3000009, 7000027, 6002066, 6003044, 6030025, 6032023, 6035025, 6044023, 6047003, 6052023, 6052028].contains f, fns := fun f => [3, 4, 5, 6, 7, 8, 9, 10, 11, 12, 13, 14, 15, 16, 17, 18, 19, 20, 21, 22, 23, 24, 25, 26, 27, 28, 29, 30, 31, 32, 33, 34, 35, 36, 37, 38, 39, 40, 41, 42, 43, 44, 45, 46, 47, 48, 49, 50, 51, 52, 53, 54, 55, 56, 57, 58, 59, 60, 61, 62, 63, 64, 65, 66, 67, 68].contains f, lv := fun _ _ => none }
def FnOk (f : Nat) : Prop := ∀ fn, Try.prog.funcs[f]? = some fn → fnB X.hs fn = true
theorem fn3 : FnOk 3 := fun fn h => by rw [Try.func3] at h; cases h; kernel_rfl
theorem fd3 : fnd Try.prog X 3 = some Try.f3 := by rfl
theorem fn4 : FnOk 4 := fun fn h => by rw [Try.func4] at h; cases h; kernel_rfl
theorem fd4 : fnd Try.prog X 4 = some Try.f4 := by rfl
theorem fn5 : FnOk 5 := fun fn h => by rw [Try.func5] at h; cases h; kernel_rfl
theorem fd5 : fnd Try.prog X 5 = some Try.f5 := by rfl
theorem fn6 : FnOk 6 := fun fn h => by rw [Try.func6] at h; cases h; kernel_rfl
theorem fd6 : fnd Try.prog X 6 = some Try.f6 := by rfl
theorem fn7 : FnOk 7 := fun fn h => by rw [Try.func7] at h; cases h; kernel_rfl
theorem fd7 : fnd Try.prog X 7 = some Try.f7 := by rfl
theorem fn8 : FnOk 8 := fun fn h => by rw [Try.func8] at h; cases h; kernel_rfl
theorem fd8 : fnd Try.prog X 8 = some Try.f8 := by rfl
theorem fn9 : FnOk 9 := fun fn h => by rw [Try.func9] at h; cases h; kernel_rfl
theorem fd9 : fnd Try.prog X 9 = some Try.f9 := by rfl
theorem fn10 : FnOk 10 := fun fn h => by rw [Try.func10] at h; cases h; kernel_rfl
theorem fd10 : fnd Try.prog X 10 = some Try.f10 := by rfl
theorem fn11 : FnOk 11 := fun fn h => by rw [Try.func11] at h; cases h; kernel_rfl
theorem fd11 : fnd Try.prog X 11 = some Try.f11 := by rfl
theorem fn12 : FnOk 12 := fun fn h => by rw [Try.func12] at h; cases h; kernel_rfl
theorem fd12 : fnd Try.prog X 12 = some Try.f12 := by rfl
theorem fn13 : FnOk 13 := fun fn h => by rw [Try.func13] at h; cases h; kernel_rfl
theorem fd13 : fnd Try.prog X 13 = some Try.f13 := by rfl
theorem fn14 : FnOk 14 := fun fn h => by rw [Try.func14] at h; cases h; kernel_rfl
theorem fd14 : fnd Try.prog X 14 = some Try.f14 := by rfl
theorem fn15 : FnOk 15 := fun fn h => by rw [Try.func15] at h; cases h; kernel_rfl
theorem fd15 : fnd Try.prog X 15 = some Try.f15 := by rfl
theorem fn16 : FnOk 16 := fun fn h => by rw [Try.func16] at h; cases h; kernel_rfl
theorem fd16 : fnd Try.prog X 16 = some Try.f16 := by rfl
theorem fn17 : FnOk 17 := fun fn h => by rw [Try.func17] at h; cases h; kernel_rfl
theorem fd17 : fnd Try.prog X 17 = some Try.f17 := by rfl
theorem fn18 : FnOk 18 := fun fn h => by rw [Try.func18] at h; cases h; kernel_rfl
theorem fd18 : fnd Try.prog X 18 = some Try.f18 := by rfl
theorem fn19 : FnOk 19 := fun fn h => by rw [Try.func19] at h; cases h; kernel_rfl
theorem fd19 : fnd Try.prog X 19 = some Try.f19 := by rfl
theorem fn20 : FnOk 20 := fun fn h => by rw [Try.func20] at h; cases h; kernel_rfl
theorem fd20 : fnd Try.prog X 20 = some Try.f20 := by rfl
theorem fn21 : FnOk 21 := fun fn h => by rw [Try.func21] at h; cases h; kernel_rfl
theorem fd21 : fnd Try.prog X 21 = some Try.f21 := by rfl
theorem fn22 : FnOk 22 := fun fn h => by rw [Try.func22] at h; cases h; kernel_rfl
theorem fd22 : fnd Try.prog X 22 = some Try.f22 := by rfl
theorem fn23 : FnOk 23 := fun fn h => by rw [Try.func23] at h; cases h; kernel_rfl
theorem fd23 : fnd Try.prog X 23 = some Try.f23 := by rfl
theorem fn24 : FnOk 24 := fun fn h => by rw [Try.func24] at h; cases h; kernel_rfl
theorem fd24 : fnd Try.prog X 24 = some Try.f24 := by rfl
theorem fn25 : FnOk 25 := fun fn h => by rw [Try.func25] at h; cases h; kernel_rfl
theorem fd25 : fnd Try.prog X 25 = some Try.f25 := by rfl
theorem fn26 : FnOk 26 := fun fn h => by rw [Try.func26] at h; cases h; kernel_rfl
theorem fd26 : fnd Try.prog X 26 = some Try.f26 := by rfl
theorem fn27 : FnOk 27 := fun fn h => by rw [Try.func27] at h; cases h; kernel_rfl
theorem fd27 : fnd Try.prog X 27 = some Try.f27 := by rfl
theorem fn28 : FnOk 28 := fun fn h => by rw [Try.func28] at h; cases h; kernel_rfl
theorem fd28 : fnd Try.prog X 28 = some Try.f28 := by rfl
theorem fn29 : FnOk 29 := fun fn h => by rw [Try.func29] at h; cases h; kernel_rfl
theorem fd29 : fnd Try.prog X 29 = some Try.f29 := by rfl
theorem fn30 : FnOk 30 := fun fn h => by rw [Try.func30] at h; cases h; kernel_rfl
theorem fd30 : fnd Try.prog X 30 = some Try.f30 := by rfl
theorem fn31 : FnOk 31 := fun fn h => by rw [Try.func31] at h; cases h; kernel_rfl
theorem fd31 : fnd Try.prog X 31 = some Try.f31 := by rfl
theorem fn32 : FnOk 32 := fun fn h => by rw [Try.func32] at h; cases h; kernel_rfl
theorem fd32 : fnd Try.prog X 32 = some Try.f32 := by rfl
theorem fn33 : FnOk 33 := fun fn h => by rw [Try.func33] at h; cases h; kernel_rfl
theorem fd33 : fnd Try.prog X 33 = some Try.f33 := by rfl
theorem fn34 : FnOk 34 := fun fn h => by rw [Try.func34] at h; cases h; kernel_rfl
theorem fd34 : fnd Try.prog X 34 = some Try.f34 := by rfl
theorem fn35 : FnOk 35 := fun fn h => by rw [Try.func35] at h; cases h; kernel_rfl
theorem fd35 : fnd Try.prog X 35 = some Try.f35 := by rfl
theorem fn36 : FnOk 36 := fun fn h => by rw [Try.func36] at h; cases h; kernel_rfl
theorem fd36 : fnd Try.prog X 36 = some Try.f36 := by rfl
theorem fn37 : FnOk 37 := fun fn h => by rw [Try.func37] at h; cases h; kernel_rfl
theorem fd37 : fnd Try.prog X 37 = some Try.f37 := by rfl
theorem fn38 : FnOk 38 := fun fn h => by rw [Try.func38] at h; cases h; kernel_rfl
theorem fd38 : fnd Try.prog X 38 = some Try.f38 := by rfl
theorem fn39 : FnOk 39 := fun fn h => by rw [Try.func39] at h; cases h; kernel_rfl
theorem fd39 : fnd Try.prog X 39 = some Try.f39 := by rfl
theorem fn40 : FnOk 40 := fun fn h => by rw [Try.func40] at h; cases h; kernel_rfl
theorem fd40 : fnd Try.prog X 40 = some Try.f40 := by rfl
theorem fn41 : FnOk 41 := fun fn h => by rw [Try.func41] at h; cases h; kernel_rfl
theorem fd41 : fnd Try.prog X 41 = some Try.f41 := by rfl
theorem fn42 : FnOk 42 := fun fn h => by rw [Try.func42] at h; cases h; kernel_rfl
theorem fd42 : fnd Try.prog X 42 = some Try.f42 := by rfl
theorem fn43 : FnOk 43 := fun fn h => by rw [Try.func43] at h; cases h; kernel_rfl
theorem fd43 : fnd Try.prog X 43 = some Try.f43 := by rfl
theorem fn44 : FnOk 44 := fun fn h => by rw [Try.func44] at h; cases h; kernel_rfl
theorem fd44 : fnd Try.prog X 44 = some Try.f44 := by rfl
theorem fn45 : FnOk 45 := fun fn h => by rw [Try.func45] at h; cases h; kernel_rfl
theorem fd45 : fnd Try.prog X 45 = some Try.f45 := by rfl
theorem fn46 : FnOk 46 := fun fn h => by rw [Try.func46] at h; cases h; kernel_rfl
theorem fd46 : fnd Try.prog X 46 = some Try.f46 := by rfl
theorem fn47 : FnOk 47 := fun fn h => by rw [Try.func47] at h; cases h; kernel_rfl
theorem fd47 : fnd Try.prog X 47 = some Try.f47 := by rfl
theorem fn48 : FnOk 48 := fun fn h => by rw [Try.func48] at h; cases h; kernel_rfl
theorem fd48 : fnd Try.prog X 48 = some Try.f48 := by rfl
theorem fn49 : FnOk 49 := fun fn h => by rw [Try.func49] at h; cases h; kernel_rfl
theorem fd49 : fnd Try.prog X 49 = some Try.f49 := by rfl
theorem fn50 : FnOk 50 := fun fn h => by rw [Try.func50] at h; cases h; kernel_rfl
theorem fd50 : fnd Try.prog X 50 = some Try.f50 := by rfl
theorem fn51 : FnOk 51 := fun fn h => by rw [Try.func51] at h; cases h; kernel_rfl
theorem fd51 : fnd Try.prog X 51 = some Try.f51 := by rfl
theorem fn52 : FnOk 52 := fun fn h => by rw [Try.func52] at h; cases h; kernel_rfl
theorem fd52 : fnd Try.prog X 52 = some Try.f52 := by rfl
theorem fn53 : FnOk 53 := fun fn h => by rw [Try.func53] at h; cases h; kernel_rfl
theorem fd53 : fnd Try.prog X 53 = some Try.f53 := by rfl
theorem fn54 : FnOk 54 := fun fn h => by rw [Try.func54] at h; cases h; kernel_rfl
theorem fd54 : fnd Try.prog X 54 = some Try.f54 := by rfl
theorem fn55 : FnOk 55 := fun fn h => by rw [Try.func55] at h; cases h; kernel_rfl
theorem fd55 : fnd Try.prog X 55 = some Try.f55 := by rfl
theorem fn56 : FnOk 56 := fun fn h => by rw [Try.func56] at h; cases h; kernel_rfl
theorem fd56 : fnd Try.prog X 56 = some Try.f56 := by rfl
theorem fn57 : FnOk 57 := fun fn h => by rw [Try.func57] at h; cases h; kernel_rfl
theorem fd57 : fnd Try.prog X 57 = some Try.f57 := by rfl
theorem fn58 : FnOk 58 := fun fn h => by rw [Try.func58] at h; cases h; kernel_rfl
theorem fd58 : fnd Try.prog X 58 = some Try.f58 := by rfl
theorem fn59 : FnOk 59 := fun fn h => by rw [Try.func59] at h; cases h; kernel_rfl
theorem fd59 : fnd Try.prog X 59 = some Try.f59 := by rfl
theorem fn60 : FnOk 60 := fun fn h => by rw [Try.func60] at h; cases h; kernel_rfl
theorem fd60 : fnd Try.prog X 60 = some Try.f60 := by rfl
theorem fn61 : FnOk 61 := fun fn h => by rw [Try.func61] at h; cases h; kernel_rfl
theorem fd61 : fnd Try.prog X 61 = some Try.f61 := by rfl
theorem fn62 : FnOk 62 := fun fn h => by rw [Try.func62] at h; cases h; kernel_rfl
theorem fd62 : fnd Try.prog X 62 = some Try.f62 := by rfl
theorem fn63 : FnOk 63 := fun fn h => by rw [Try.func63] at h; cases h; kernel_rfl
theorem fd63 : fnd Try.prog X 63 = some Try.f63 := by rfl
theorem fn64 : FnOk 64 := fun fn h => by rw [Try.func64] at h; cases h; kernel_rfl
theorem fd64 : fnd Try.prog X 64 = some Try.f64 := by rfl
theorem fn65 : FnOk 65 := fun fn h => by rw [Try.func65] at h; cases h; kernel_rfl
theorem fd65 : fnd Try.prog X 65 = some Try.f65 := by rfl
theorem fn66 : FnOk 66 := fun fn h => by rw [Try.func66] at h; cases h; kernel_rfl
theorem fd66 : fnd Try.prog X 66 = some Try.f66 := by rfl
theorem fn67 : FnOk 67 := fun fn h => by rw [Try.func67] at h; cases h; kernel_rfl
theorem fd67 : fnd Try.prog X 67 = some Try.f67 := by rfl
theorem fn68 : FnOk 68 := fun fn h => by rw [Try.func68] at h; cases h; kernel_rfl
theorem fd68 : fnd Try.prog X 68 = some Try.f68 := by rfl
theorem fns_ok : ∀ f fn, X.fns f = true → Try.prog.funcs[f]? = some fn → fnB X.hs fn = true := by
  have h : ∀ f ∈ [3, 4, 5, 6, 7, 8, 9, 10, 11, 12, 13, 14, 15, 16, 17, 18, 19, 20, 21, 22, 23, 24, 25, 26, 27, 28, 29, 30, 31, 32, 33, 34, 35, 36, 37, 38, 39, 40, 41, 42, 43, 44, 45, 46, 47, 48, 49, 50, 51, 52, 53, 54, 55, 56, 57, 58, 59, 60, 61, 62, 63, 64, 65, 66, 67, 68], FnOk f := all_cons fn3 (all_cons fn4 (all_cons fn5 (all_cons fn6 (all_cons fn7 (all_cons fn8 (all_cons fn9 (all_cons fn10 (all_cons fn11 (all_cons fn12 (all_cons fn13 (all_cons fn14 (all_cons fn15 (all_cons fn16 (all_cons fn17 (all_cons fn18 (all_cons fn19 (all_cons fn20 (all_cons fn21 (all_cons fn22 (all_cons fn23 (all_cons fn24 (all_cons fn25 (all_cons fn26 (all_cons fn27 (all_cons fn28 (all_cons fn29 (all_cons fn30 (all_cons fn31 (all_cons fn32 (all_cons fn33 (all_cons fn34 (all_cons fn35 (all_cons fn36 (all_cons fn37 (all_cons fn38 (all_cons fn39 (all_cons fn40 (all_cons fn41 (all_cons fn42 (all_cons fn43 (all_cons fn44 (all_cons fn45 (all_cons fn46 (all_cons fn47 (all_cons fn48 (all_cons fn49 (all_cons fn50 (all_cons fn51 (all_cons fn52 (all_cons fn53 (all_cons fn54 (all_cons fn55 (all_cons fn56 (all_cons fn57 (all_cons fn58 (all_cons fn59 (all_cons fn60 (all_cons fn61 (all_cons fn62 (all_cons fn63 (all_cons fn64 (all_cons fn65 (all_cons fn66 (all_cons fn67 (all_cons fn68 all_nil)))))))))))))))))))))))))))))))))))))))))))))))))))))))))))))))))
  exact fun f fn hx => h f (by simpa [X] using hx) fn
theorem ext_ok : ∀ g h l r, X.ext g = some h → h l = some r → (∃ fn, Try.prog.funcs[g]? = some fn ∧ fn.body.isNone = false ∧ (fn.name == "runtime.NumGoroutine") = false) ∧ IsoOk Try.prog X.G g l r := fun g h l r e => by cases e
theorem env : EnvOk Try.prog X := ⟨by kernel_rfl, fns_ok, ext_ok⟩
end Go.Proofs.Ytmkpdbofhpffaaa
