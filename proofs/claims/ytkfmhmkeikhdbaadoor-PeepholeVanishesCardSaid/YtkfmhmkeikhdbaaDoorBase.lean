/- How the program is read: the functions, the variables. -/
import Derived.Test.YtkfmhmkeikhdbaaDoorRows
import Derived.Test.YtkfmhmkeikhdbaaDoorPvZ
import Derived.KernelRfl
import Derived.Test.YtkfmhmkeikhdbaaDoorShelf
namespace Go.Proofs.YtkfmhmkeikhdbaaDoor
open Go.Proofs.YtkfmhmkeikhdbaaDoor.Pv Go.RowKit
set_option linter.unusedSimpArgs false
set_option linter.unusedVariables false
set_option maxRecDepth 100000
theorem laidOut : laidOutB Tryd.prog = true := by kernel_rfl
theorem lay : layB Tryd.prog = true := by kernel_rfl
def tab0 : List PV := [.str ⟨⟨[110, 111, 112]⟩⟩, .str ⟨⟨[]⟩⟩, .str ⟨⟨[97, 100, 100]⟩⟩, .str ⟨⟨[114, 114]⟩⟩, .str ⟨⟨[115, 117, 98]⟩⟩, .str ⟨⟨[114, 114]⟩⟩, .str ⟨⟨[120, 111, 114]⟩⟩, .str ⟨⟨[114, 114]⟩⟩, .str ⟨⟨[97, 100, 100, 105]⟩⟩, .str ⟨⟨[114, 110]⟩⟩, .str ⟨⟨[115, 117, 98, 105]⟩⟩, .str ⟨⟨[114, 110]⟩⟩, .str ⟨⟨[120, 111, 114, 105]⟩⟩, .str ⟨⟨[114, 110]⟩⟩, .str ⟨⟨[115, 119, 97, 112]⟩⟩, .str ⟨⟨[114, 114]⟩⟩, .str ⟨⟨[110, 101, 103]⟩⟩, .str ⟨⟨[114]⟩⟩, .str ⟨⟨[99, 97, 108, 99]⟩⟩, .str ⟨⟨[114, 114, 114, 111]⟩⟩, .str ⟨⟨[109, 101, 109]⟩⟩, .str ⟨⟨[114, 107]⟩⟩, .str ⟨⟨[105, 100, 120]⟩⟩, .str ⟨⟨[114, 114, 107, 107]⟩⟩, .str ⟨⟨[112, 117, 115, 104]⟩⟩, .str ⟨⟨[114, 107]⟩⟩, .str ⟨⟨[112, 111, 112]⟩⟩, .str ⟨⟨[114, 107]⟩⟩, .str ⟨⟨[116, 111, 112]⟩⟩, .str ⟨⟨[114, 107]⟩⟩, .str ⟨⟨[115, 105, 122, 101]⟩⟩, .str ⟨⟨[114, 107]⟩⟩, .str ⟨⟨[115, 119, 97, 112, 115]⟩⟩, .str ⟨⟨[107, 107]⟩⟩, .str ⟨⟨[114, 101, 97, 100]⟩⟩, .str ⟨⟨[114]⟩⟩, .str ⟨⟨[117, 110, 114, 101, 97, 100]⟩⟩, .str ⟨⟨[114]⟩⟩, .str ⟨⟨[119, 114, 105, 116, 101]⟩⟩, .str ⟨⟨[114]⟩⟩, .str ⟨⟨[117, 110, 119, 114, 105, 116, 101]⟩⟩, .str ⟨⟨[114]⟩⟩, .str ⟨⟨[122, 101, 114, 111]⟩⟩, .str ⟨⟨[114, 101]⟩⟩, .str ⟨⟨[106, 109, 112]⟩⟩, .str ⟨⟨[116]⟩⟩, .str ⟨⟨[106, 109, 112, 122]⟩⟩, .str ⟨⟨[114, 116]⟩⟩, .str ⟨⟨[106, 109, 112, 110]⟩⟩, .str ⟨⟨[114, 116]⟩⟩, .str ⟨⟨[108, 97, 110, 100]⟩⟩, .str ⟨⟨[116]⟩⟩, .str ⟨⟨[108, 97, 110, 100, 122]⟩⟩, .str ⟨⟨[114, 116]⟩⟩, .str ⟨⟨[108, 97, 110, 100, 110]⟩⟩, .str ⟨⟨[114, 116]⟩⟩, .str ⟨⟨[102, 114, 97, 109, 101]⟩⟩, .str ⟨⟨[107, 107]⟩⟩, .str ⟨⟨[117, 110, 102, 114, 97, 109, 101]⟩⟩, .str ⟨⟨[107, 107]⟩⟩, .str ⟨⟨[99, 97, 108, 108]⟩⟩, .str ⟨⟨[116]⟩⟩, .str ⟨⟨[117, 110, 99, 97, 108, 108]⟩⟩, .str ⟨⟨[116]⟩⟩, .str ⟨⟨[115, 116, 97, 114, 116]⟩⟩, .str ⟨⟨[116]⟩⟩, .str ⟨⟨[101, 110, 100]⟩⟩, .str ⟨⟨[116]⟩⟩, .str ⟨⟨[104, 97, 108, 116]⟩⟩, .str ⟨⟨[]⟩⟩]
theorem tab0_eq {H : Type} : dpv (Rows.laid_backstep_isa_table : DataW H) = tab0 := by rfl
def X : Cfg := { G := fun g => if g = 0 then tab0 else [], ext := fun g => if g = 57 then some (fun l => match l with | [.str s, .int .u8 c] => some (.int .i64 (Lib.indexByte s.data.toList c.toNat.toUInt8)) | _ => none) else none, sh := fun f => [21, 22, 23, 24, 25, 38, 39, 40, 41, 42, 43, 45, 48, 54, 58, 61, 62, 66, 67, 68, 69, 70, 71, 72, 73, 75, 77, 78, 79].contains f, fns := fun f => [3, 4, 5, 7, 8, 9, 10, 11, 12, 13, 14, 15, 16, 17, 18, 19, 20, 26, 27, 28, 29, 30, 31, 32, 33, 34, 35, 36, 37, 47, 48, 49, 50, 51, 55, 56, 58, 59, 60, 64, 65].contains f, lv := fun _ _ => none }
def FnOk (f : Nat) : Prop := ∀ fn, Tryd.prog.funcs[f]? = some fn → fnB fn = true
theorem fn3 : FnOk 3 := fun fn h => by rw [Tryd.func3] at h; cases h; kernel_rfl
theorem fd3 : fnd Tryd.prog X 3 = some Tryd.f3 := by rfl
theorem fn4 : FnOk 4 := fun fn h => by rw [Tryd.func4] at h; cases h; kernel_rfl
theorem fd4 : fnd Tryd.prog X 4 = some Tryd.f4 := by rfl
theorem fn5 : FnOk 5 := fun fn h => by rw [Tryd.func5] at h; cases h; kernel_rfl
theorem fd5 : fnd Tryd.prog X 5 = some Tryd.f5 := by rfl
theorem fn7 : FnOk 7 := fun fn h => by rw [Tryd.func7] at h; cases h; kernel_rfl
theorem fd7 : fnd Tryd.prog X 7 = some Tryd.f7 := by rfl
theorem fn8 : FnOk 8 := fun fn h => by rw [Tryd.func8] at h; cases h; kernel_rfl
theorem fd8 : fnd Tryd.prog X 8 = some Tryd.f8 := by rfl
theorem fn9 : FnOk 9 := fun fn h => by rw [Tryd.func9] at h; cases h; kernel_rfl
theorem fd9 : fnd Tryd.prog X 9 = some Tryd.f9 := by rfl
theorem fn10 : FnOk 10 := fun fn h => by rw [Tryd.func10] at h; cases h; kernel_rfl
theorem fd10 : fnd Tryd.prog X 10 = some Tryd.f10 := by rfl
theorem fn11 : FnOk 11 := fun fn h => by rw [Tryd.func11] at h; cases h; kernel_rfl
theorem fd11 : fnd Tryd.prog X 11 = some Tryd.f11 := by rfl
theorem fn12 : FnOk 12 := fun fn h => by rw [Tryd.func12] at h; cases h; kernel_rfl
theorem fd12 : fnd Tryd.prog X 12 = some Tryd.f12 := by rfl
theorem fn13 : FnOk 13 := fun fn h => by rw [Tryd.func13] at h; cases h; kernel_rfl
theorem fd13 : fnd Tryd.prog X 13 = some Tryd.f13 := by rfl
theorem fn14 : FnOk 14 := fun fn h => by rw [Tryd.func14] at h; cases h; kernel_rfl
theorem fd14 : fnd Tryd.prog X 14 = some Tryd.f14 := by rfl
theorem fn15 : FnOk 15 := fun fn h => by rw [Tryd.func15] at h; cases h; kernel_rfl
theorem fd15 : fnd Tryd.prog X 15 = some Tryd.f15 := by rfl
theorem fn16 : FnOk 16 := fun fn h => by rw [Tryd.func16] at h; cases h; kernel_rfl
theorem fd16 : fnd Tryd.prog X 16 = some Tryd.f16 := by rfl
theorem fn17 : FnOk 17 := fun fn h => by rw [Tryd.func17] at h; cases h; kernel_rfl
theorem fd17 : fnd Tryd.prog X 17 = some Tryd.f17 := by rfl
theorem fn18 : FnOk 18 := fun fn h => by rw [Tryd.func18] at h; cases h; kernel_rfl
theorem fd18 : fnd Tryd.prog X 18 = some Tryd.f18 := by rfl
theorem fn19 : FnOk 19 := fun fn h => by rw [Tryd.func19] at h; cases h; kernel_rfl
theorem fd19 : fnd Tryd.prog X 19 = some Tryd.f19 := by rfl
theorem fn20 : FnOk 20 := fun fn h => by rw [Tryd.func20] at h; cases h; kernel_rfl
theorem fd20 : fnd Tryd.prog X 20 = some Tryd.f20 := by rfl
theorem fn26 : FnOk 26 := fun fn h => by rw [Tryd.func26] at h; cases h; kernel_rfl
theorem fd26 : fnd Tryd.prog X 26 = some Tryd.f26 := by rfl
theorem fn27 : FnOk 27 := fun fn h => by rw [Tryd.func27] at h; cases h; kernel_rfl
theorem fd27 : fnd Tryd.prog X 27 = some Tryd.f27 := by rfl
theorem fn28 : FnOk 28 := fun fn h => by rw [Tryd.func28] at h; cases h; kernel_rfl
theorem fd28 : fnd Tryd.prog X 28 = some Tryd.f28 := by rfl
theorem fn29 : FnOk 29 := fun fn h => by rw [Tryd.func29] at h; cases h; kernel_rfl
theorem fd29 : fnd Tryd.prog X 29 = some Tryd.f29 := by rfl
theorem fn30 : FnOk 30 := fun fn h => by rw [Tryd.func30] at h; cases h; kernel_rfl
theorem fd30 : fnd Tryd.prog X 30 = some Tryd.f30 := by rfl
theorem fn31 : FnOk 31 := fun fn h => by rw [Tryd.func31] at h; cases h; kernel_rfl
theorem fd31 : fnd Tryd.prog X 31 = some Tryd.f31 := by rfl
theorem fn32 : FnOk 32 := fun fn h => by rw [Tryd.func32] at h; cases h; kernel_rfl
theorem fd32 : fnd Tryd.prog X 32 = some Tryd.f32 := by rfl
theorem fn33 : FnOk 33 := fun fn h => by rw [Tryd.func33] at h; cases h; kernel_rfl
theorem fd33 : fnd Tryd.prog X 33 = some Tryd.f33 := by rfl
theorem fn34 : FnOk 34 := fun fn h => by rw [Tryd.func34] at h; cases h; kernel_rfl
theorem fd34 : fnd Tryd.prog X 34 = some Tryd.f34 := by rfl
theorem fn35 : FnOk 35 := fun fn h => by rw [Tryd.func35] at h; cases h; kernel_rfl
theorem fd35 : fnd Tryd.prog X 35 = some Tryd.f35 := by rfl
theorem fn36 : FnOk 36 := fun fn h => by rw [Tryd.func36] at h; cases h; kernel_rfl
theorem fd36 : fnd Tryd.prog X 36 = some Tryd.f36 := by rfl
theorem fn37 : FnOk 37 := fun fn h => by rw [Tryd.func37] at h; cases h; kernel_rfl
theorem fd37 : fnd Tryd.prog X 37 = some Tryd.f37 := by rfl
theorem fn47 : FnOk 47 := fun fn h => by rw [Tryd.func47] at h; cases h; kernel_rfl
theorem fd47 : fnd Tryd.prog X 47 = some Tryd.f47 := by rfl
theorem fn48 : FnOk 48 := fun fn h => by rw [Tryd.func48] at h; cases h; kernel_rfl
theorem fd48 : fnd Tryd.prog X 48 = some Tryd.f48 := by rfl
theorem fn49 : FnOk 49 := fun fn h => by rw [Tryd.func49] at h; cases h; kernel_rfl
theorem fd49 : fnd Tryd.prog X 49 = some Tryd.f49 := by rfl
theorem fn50 : FnOk 50 := fun fn h => by rw [Tryd.func50] at h; cases h; kernel_rfl
theorem fd50 : fnd Tryd.prog X 50 = some Tryd.f50 := by rfl
theorem fn51 : FnOk 51 := fun fn h => by rw [Tryd.func51] at h; cases h; kernel_rfl
theorem fd51 : fnd Tryd.prog X 51 = some Tryd.f51 := by rfl
theorem fn55 : FnOk 55 := fun fn h => by rw [Tryd.func55] at h; cases h; kernel_rfl
theorem fd55 : fnd Tryd.prog X 55 = some Tryd.f55 := by rfl
theorem fn56 : FnOk 56 := fun fn h => by rw [Tryd.func56] at h; cases h; kernel_rfl
theorem fd56 : fnd Tryd.prog X 56 = some Tryd.f56 := by rfl
theorem fn58 : FnOk 58 := fun fn h => by rw [Tryd.func58] at h; cases h; kernel_rfl
theorem fd58 : fnd Tryd.prog X 58 = some Tryd.f58 := by rfl
theorem fn59 : FnOk 59 := fun fn h => by rw [Tryd.func59] at h; cases h; kernel_rfl
theorem fd59 : fnd Tryd.prog X 59 = some Tryd.f59 := by rfl
theorem fn60 : FnOk 60 := fun fn h => by rw [Tryd.func60] at h; cases h; kernel_rfl
theorem fd60 : fnd Tryd.prog X 60 = some Tryd.f60 := by rfl
theorem fn64 : FnOk 64 := fun fn h => by rw [Tryd.func64] at h; cases h; kernel_rfl
theorem fd64 : fnd Tryd.prog X 64 = some Tryd.f64 := by rfl
theorem fn65 : FnOk 65 := fun fn h => by rw [Tryd.func65] at h; cases h; kernel_rfl
theorem fd65 : fnd Tryd.prog X 65 = some Tryd.f65 := by rfl
theorem fns_ok : ∀ f fn, X.fns f = true → Tryd.prog.funcs[f]? = some fn → fnB fn = true := by
  have h : ∀ f ∈ [3, 4, 5, 7, 8, 9, 10, 11, 12, 13, 14, 15, 16, 17, 18, 19, 20, 26, 27, 28, 29, 30, 31, 32, 33, 34, 35, 36, 37, 47, 48, 49, 50, 51, 55, 56, 58, 59, 60, 64, 65], FnOk f := all_cons fn3 (all_cons fn4 (all_cons fn5 (all_cons fn7 (all_cons fn8 (all_cons fn9 (all_cons fn10 (all_cons fn11 (all_cons fn12 (all_cons fn13 (all_cons fn14 (all_cons fn15 (all_cons fn16 (all_cons fn17 (all_cons fn18 (all_cons fn19 (all_cons fn20 (all_cons fn26 (all_cons fn27 (all_cons fn28 (all_cons fn29 (all_cons fn30 (all_cons fn31 (all_cons fn32 (all_cons fn33 (all_cons fn34 (all_cons fn35 (all_cons fn36 (all_cons fn37 (all_cons fn47 (all_cons fn48 (all_cons fn49 (all_cons fn50 (all_cons fn51 (all_cons fn55 (all_cons fn56 (all_cons fn58 (all_cons fn59 (all_cons fn60 (all_cons fn64 (all_cons fn65 all_nil))))))))))))))))))))))))))))))))))))))))
  exact fun f fn hx => h f (by simpa [X] using hx) fn
theorem ext_ok : ∀ g h l r, X.ext g = some h → h l = some r → (∃ fn, Tryd.prog.funcs[g]? = some fn ∧ fn.body.isNone = false ∧ (fn.name == "runtime.NumGoroutine") = false) ∧ IsoOk Tryd.prog X.G g l r := fun g h l r hg hr => by
  simp only [X] at hg
  split at hg
  · rename_i e
    subst e
    cases hg
    refine ⟨⟨Tryd.f57, Tryd.func57, by kernel_rfl, by kernel_rfl⟩, fun w H vs hsub hgr ha => ?_⟩
    simp only at hr
    split at hr
    · rename_i s c
      cases hr
      obtain ⟨v0, v1, rfl, h0, h1⟩ := args2 ha
      cases h0; cases h1
      refine (Tryd.strings_IndexByte s c w).mono fun e w' ⟨he, hw⟩ => ?_
      subst hw
      exact ⟨_, H, he, .refl _ _, .refl _, fun _ _ _ _ h => h, hsub, .int _ _⟩
    · cases hr
  · cases hg
theorem env : EnvOk Tryd.prog X := ⟨by kernel_rfl, fns_ok, ext_ok⟩
end Go.Proofs.YtkfmhmkeikhdbaaDoor
