/- How the program is read: the functions, the variables. -/
import Derived.Test.YtfhojpnofmlkdaaDoorRows
import Derived.Test.YtfhojpnofmlkdaaDoorPvB
import Derived.KernelRfl
import Derived.Test.YtfhojpnofmlkdaaDoorShelf
namespace Go.Proofs.YtfhojpnofmlkdaaDoor
open Go.Proofs.YtfhojpnofmlkdaaDoor.Pv Go.RowKit
set_option linter.unusedSimpArgs false
set_option linter.unusedVariables false
set_option maxRecDepth 100000
theorem laidOut : laidOutB Tryd.prog = true := by kernel_rfl
theorem lay : layB Tryd.prog = true := by kernel_rfl
def tab0 : List PV := [.str ⟨⟨[110, 111, 112]⟩⟩, .str ⟨⟨[]⟩⟩, .str ⟨⟨[97, 100, 100]⟩⟩, .str ⟨⟨[114, 114]⟩⟩, .str ⟨⟨[115, 117, 98]⟩⟩, .str ⟨⟨[114, 114]⟩⟩, .str ⟨⟨[120, 111, 114]⟩⟩, .str ⟨⟨[114, 114]⟩⟩, .str ⟨⟨[97, 100, 100, 105]⟩⟩, .str ⟨⟨[114, 110]⟩⟩, .str ⟨⟨[115, 117, 98, 105]⟩⟩, .str ⟨⟨[114, 110]⟩⟩, .str ⟨⟨[120, 111, 114, 105]⟩⟩, .str ⟨⟨[114, 110]⟩⟩, .str ⟨⟨[115, 119, 97, 112]⟩⟩, .str ⟨⟨[114, 114]⟩⟩, .str ⟨⟨[110, 101, 103]⟩⟩, .str ⟨⟨[114]⟩⟩, .str ⟨⟨[99, 97, 108, 99]⟩⟩, .str ⟨⟨[114, 114, 114, 111]⟩⟩, .str ⟨⟨[109, 101, 109]⟩⟩, .str ⟨⟨[114, 107]⟩⟩, .str ⟨⟨[105, 100, 120]⟩⟩, .str ⟨⟨[114, 114, 107, 107]⟩⟩, .str ⟨⟨[112, 117, 115, 104]⟩⟩, .str ⟨⟨[114, 107]⟩⟩, .str ⟨⟨[112, 111, 112]⟩⟩, .str ⟨⟨[114, 107]⟩⟩, .str ⟨⟨[116, 111, 112]⟩⟩, .str ⟨⟨[114, 107]⟩⟩, .str ⟨⟨[115, 105, 122, 101]⟩⟩, .str ⟨⟨[114, 107]⟩⟩, .str ⟨⟨[115, 119, 97, 112, 115]⟩⟩, .str ⟨⟨[107, 107]⟩⟩, .str ⟨⟨[114, 101, 97, 100]⟩⟩, .str ⟨⟨[114]⟩⟩, .str ⟨⟨[117, 110, 114, 101, 97, 100]⟩⟩, .str ⟨⟨[114]⟩⟩, .str ⟨⟨[119, 114, 105, 116, 101]⟩⟩, .str ⟨⟨[114]⟩⟩, .str ⟨⟨[117, 110, 119, 114, 105, 116, 101]⟩⟩, .str ⟨⟨[114]⟩⟩, .str ⟨⟨[122, 101, 114, 111]⟩⟩, .str ⟨⟨[114, 101]⟩⟩, .str ⟨⟨[106, 109, 112]⟩⟩, .str ⟨⟨[116]⟩⟩, .str ⟨⟨[106, 109, 112, 122]⟩⟩, .str ⟨⟨[114, 116]⟩⟩, .str ⟨⟨[106, 109, 112, 110]⟩⟩, .str ⟨⟨[114, 116]⟩⟩, .str ⟨⟨[108, 97, 110, 100]⟩⟩, .str ⟨⟨[116]⟩⟩, .str ⟨⟨[108, 97, 110, 100, 122]⟩⟩, .str ⟨⟨[114, 116]⟩⟩, .str ⟨⟨[108, 97, 110, 100, 110]⟩⟩, .str ⟨⟨[114, 116]⟩⟩, .str ⟨⟨[102, 114, 97, 109, 101]⟩⟩, .str ⟨⟨[107, 107]⟩⟩, .str ⟨⟨[117, 110, 102, 114, 97, 109, 101]⟩⟩, .str ⟨⟨[107, 107]⟩⟩, .str ⟨⟨[99, 97, 108, 108]⟩⟩, .str ⟨⟨[116]⟩⟩, .str ⟨⟨[117, 110, 99, 97, 108, 108]⟩⟩, .str ⟨⟨[116]⟩⟩, .str ⟨⟨[115, 116, 97, 114, 116]⟩⟩, .str ⟨⟨[116]⟩⟩, .str ⟨⟨[101, 110, 100]⟩⟩, .str ⟨⟨[116]⟩⟩, .str ⟨⟨[104, 97, 108, 116]⟩⟩, .str ⟨⟨[]⟩⟩]
theorem tab0_eq {H : Type} : dpv (Rows.laid_backstep_isa_table : DataW H) = tab0 := by rfl
def X : Cfg := { G := fun g => if g = 0 then tab0 else [], ext := fun g => if g = 62 then some (fun l => match l with | [.str s, .int .u8 c] => some (.int .i64 (Go.Lib.indexByte s.data.toList c.toNat.toUInt8)) | _ => none) else none, sh := fun f => [15, 16, 19, 20, 21, 22, 34, 37, 39, 40, 50, 51, 52, 53, 54, 55, 56, 57, 58, 64, 66, 67, 68, 69, 71, 76, 77, 85, 86, 2000015, 2000016, 2000019, 2000020, 2000021, 2000022, 2000034, 2000037, 2000039, 2000040, 2000050, 2000051, 2000052, 2000053, 2000054, 2000055, 2000056, 2000057, 2000058, 2000064, 2000066, 2000067, 2000068, 2000069, 2000071, 2000076, 2000077, 2000085, 2000086, 3000001, 7000030, 6003030, 6004030, 6008024, 6012003, 6109003, 6385027].contains f, fns := fun f => [9, 10, 12, 15, 16, 17, 19, 20, 21, 22, 23, 24, 25, 26, 27, 28, 35, 36, 37, 38, 39, 40, 41, 42, 43, 44, 45, 46, 47, 50, 51, 52, 53, 58, 59, 60, 63, 64, 65, 71, 72, 73, 74, 81, 82, 83].contains f, lv := fun _ _ => none }
def FnOk (f : Nat) : Prop := ∀ fn, Tryd.prog.funcs[f]? = some fn → fnB X.hs fn = true
theorem fn9 : FnOk 9 := fun fn h => by rw [Tryd.func9] at h; cases h; kernel_rfl
theorem fd9 : fnd Tryd.prog X 9 = some Tryd.f9 := by rfl
theorem fn10 : FnOk 10 := fun fn h => by rw [Tryd.func10] at h; cases h; kernel_rfl
theorem fd10 : fnd Tryd.prog X 10 = some Tryd.f10 := by rfl
theorem fn12 : FnOk 12 := fun fn h => by rw [Tryd.func12] at h; cases h; kernel_rfl
theorem fd12 : fnd Tryd.prog X 12 = some Tryd.f12 := by rfl
theorem fn15 : FnOk 15 := fun fn h => by rw [Tryd.func15] at h; cases h; kernel_rfl
theorem fd15 : fnd Tryd.prog X 15 = some Tryd.f15 := by rfl
theorem fn16 : FnOk 16 := fun fn h => by rw [Tryd.func16] at h; cases h; kernel_rfl
theorem fd16 : fnd Tryd.prog X 16 = some Tryd.f16 := by rfl
theorem fn17 : FnOk 17 := fun fn h => by rw [Tryd.func17] at h; cases h; kernel_rfl
theorem fd17 : fnd Tryd.prog X 17 = some Tryd.f17 := by rfl
theorem fn19 : FnOk 19 := fun fn h => by rw [Tryd.func19] at h; cases h; kernel_rfl
theorem fd19 : fnd Tryd.prog X 19 = some Tryd.f19 := by rfl
theorem fn20 : FnOk 20 := fun fn h => by rw [Tryd.func20] at h; cases h; kernel_rfl
theorem fd20 : fnd Tryd.prog X 20 = some Tryd.f20 := by rfl
theorem fn21 : FnOk 21 := fun fn h => by rw [Tryd.func21] at h; cases h; kernel_rfl
theorem fd21 : fnd Tryd.prog X 21 = some Tryd.f21 := by rfl
theorem fn22 : FnOk 22 := fun fn h => by rw [Tryd.func22] at h; cases h; kernel_rfl
theorem fd22 : fnd Tryd.prog X 22 = some Tryd.f22 := by rfl
theorem fn23 : FnOk 23 := fun fn h => by rw [Tryd.func23] at h; cases h; kernel_rfl
theorem fd23 : fnd Tryd.prog X 23 = some Tryd.f23 := by rfl
theorem fn24 : FnOk 24 := fun fn h => by rw [Tryd.func24] at h; cases h; kernel_rfl
theorem fd24 : fnd Tryd.prog X 24 = some Tryd.f24 := by rfl
theorem fn25 : FnOk 25 := fun fn h => by rw [Tryd.func25] at h; cases h; kernel_rfl
theorem fd25 : fnd Tryd.prog X 25 = some Tryd.f25 := by rfl
theorem fn26 : FnOk 26 := fun fn h => by rw [Tryd.func26] at h; cases h; kernel_rfl
theorem fd26 : fnd Tryd.prog X 26 = some Tryd.f26 := by rfl
theorem fn27 : FnOk 27 := fun fn h => by rw [Tryd.func27] at h; cases h; kernel_rfl
theorem fd27 : fnd Tryd.prog X 27 = some Tryd.f27 := by rfl
theorem fn28 : FnOk 28 := fun fn h => by rw [Tryd.func28] at h; cases h; kernel_rfl
theorem fd28 : fnd Tryd.prog X 28 = some Tryd.f28 := by rfl
theorem fn35 : FnOk 35 := fun fn h => by rw [Tryd.func35] at h; cases h; kernel_rfl
theorem fd35 : fnd Tryd.prog X 35 = some Tryd.f35 := by rfl
theorem fn36 : FnOk 36 := fun fn h => by rw [Tryd.func36] at h; cases h; kernel_rfl
theorem fd36 : fnd Tryd.prog X 36 = some Tryd.f36 := by rfl
theorem fn37 : FnOk 37 := fun fn h => by rw [Tryd.func37] at h; cases h; kernel_rfl
theorem fd37 : fnd Tryd.prog X 37 = some Tryd.f37 := by rfl
theorem fn38 : FnOk 38 := fun fn h => by rw [Tryd.func38] at h; cases h; kernel_rfl
theorem fd38 : fnd Tryd.prog X 38 = some Tryd.f38 := by rfl
theorem fn39 : FnOk 39 := fun fn h => by rw [Tryd.func39] at h; cases h; kernel_rfl
theorem fd39 : fnd Tryd.prog X 39 = some Tryd.f39 := by rfl
theorem fn40 : FnOk 40 := fun fn h => by rw [Tryd.func40] at h; cases h; kernel_rfl
theorem fd40 : fnd Tryd.prog X 40 = some Tryd.f40 := by rfl
theorem fn41 : FnOk 41 := fun fn h => by rw [Tryd.func41] at h; cases h; kernel_rfl
theorem fd41 : fnd Tryd.prog X 41 = some Tryd.f41 := by rfl
theorem fn42 : FnOk 42 := fun fn h => by rw [Tryd.func42] at h; cases h; kernel_rfl
theorem fd42 : fnd Tryd.prog X 42 = some Tryd.f42 := by rfl
theorem fn43 : FnOk 43 := fun fn h => by rw [Tryd.func43] at h; cases h; kernel_rfl
theorem fd43 : fnd Tryd.prog X 43 = some Tryd.f43 := by rfl
theorem fn44 : FnOk 44 := fun fn h => by rw [Tryd.func44] at h; cases h; kernel_rfl
theorem fd44 : fnd Tryd.prog X 44 = some Tryd.f44 := by rfl
theorem fn45 : FnOk 45 := fun fn h => by rw [Tryd.func45] at h; cases h; kernel_rfl
theorem fd45 : fnd Tryd.prog X 45 = some Tryd.f45 := by rfl
theorem fn46 : FnOk 46 := fun fn h => by rw [Tryd.func46] at h; cases h; kernel_rfl
theorem fd46 : fnd Tryd.prog X 46 = some Tryd.f46 := by rfl
theorem fn47 : FnOk 47 := fun fn h => by rw [Tryd.func47] at h; cases h; kernel_rfl
theorem fd47 : fnd Tryd.prog X 47 = some Tryd.f47 := by rfl
theorem fn50 : FnOk 50 := fun fn h => by rw [Tryd.func50] at h; cases h; kernel_rfl
theorem fd50 : fnd Tryd.prog X 50 = some Tryd.f50 := by rfl
theorem fn51 : FnOk 51 := fun fn h => by rw [Tryd.func51] at h; cases h; kernel_rfl
theorem fd51 : fnd Tryd.prog X 51 = some Tryd.f51 := by rfl
theorem fn52 : FnOk 52 := fun fn h => by rw [Tryd.func52] at h; cases h; kernel_rfl
theorem fd52 : fnd Tryd.prog X 52 = some Tryd.f52 := by rfl
theorem fn53 : FnOk 53 := fun fn h => by rw [Tryd.func53] at h; cases h; kernel_rfl
theorem fd53 : fnd Tryd.prog X 53 = some Tryd.f53 := by rfl
theorem fn58 : FnOk 58 := fun fn h => by rw [Tryd.func58] at h; cases h; kernel_rfl
theorem fd58 : fnd Tryd.prog X 58 = some Tryd.f58 := by rfl
theorem fn59 : FnOk 59 := fun fn h => by rw [Tryd.func59] at h; cases h; kernel_rfl
theorem fd59 : fnd Tryd.prog X 59 = some Tryd.f59 := by rfl
theorem fn60 : FnOk 60 := fun fn h => by rw [Tryd.func60] at h; cases h; kernel_rfl
theorem fd60 : fnd Tryd.prog X 60 = some Tryd.f60 := by rfl
theorem fn63 : FnOk 63 := fun fn h => by rw [Tryd.func63] at h; cases h; kernel_rfl
theorem fd63 : fnd Tryd.prog X 63 = some Tryd.f63 := by rfl
theorem fn64 : FnOk 64 := fun fn h => by rw [Tryd.func64] at h; cases h; kernel_rfl
theorem fd64 : fnd Tryd.prog X 64 = some Tryd.f64 := by rfl
theorem fn65 : FnOk 65 := fun fn h => by rw [Tryd.func65] at h; cases h; kernel_rfl
theorem fd65 : fnd Tryd.prog X 65 = some Tryd.f65 := by rfl
theorem fn71 : FnOk 71 := fun fn h => by rw [Tryd.func71] at h; cases h; kernel_rfl
theorem fd71 : fnd Tryd.prog X 71 = some Tryd.f71 := by rfl
theorem fn72 : FnOk 72 := fun fn h => by rw [Tryd.func72] at h; cases h; kernel_rfl
theorem fd72 : fnd Tryd.prog X 72 = some Tryd.f72 := by rfl
theorem fn73 : FnOk 73 := fun fn h => by rw [Tryd.func73] at h; cases h; kernel_rfl
theorem fd73 : fnd Tryd.prog X 73 = some Tryd.f73 := by rfl
theorem fn74 : FnOk 74 := fun fn h => by rw [Tryd.func74] at h; cases h; kernel_rfl
theorem fd74 : fnd Tryd.prog X 74 = some Tryd.f74 := by rfl
theorem fn81 : FnOk 81 := fun fn h => by rw [Tryd.func81] at h; cases h; kernel_rfl
theorem fd81 : fnd Tryd.prog X 81 = some Tryd.f81 := by rfl
theorem fn82 : FnOk 82 := fun fn h => by rw [Tryd.func82] at h; cases h; kernel_rfl
theorem fd82 : fnd Tryd.prog X 82 = some Tryd.f82 := by rfl
theorem fn83 : FnOk 83 := fun fn h => by rw [Tryd.func83] at h; cases h; kernel_rfl
theorem fd83 : fnd Tryd.prog X 83 = some Tryd.f83 := by rfl
theorem fns_ok : ∀ f fn, X.fns f = true → Tryd.prog.funcs[f]? = some fn → fnB X.hs fn = true := by
  have h : ∀ f ∈ [9, 10, 12, 15, 16, 17, 19, 20, 21, 22, 23, 24, 25, 26, 27, 28, 35, 36, 37, 38, 39, 40, 41, 42, 43, 44, 45, 46, 47, 50, 51, 52, 53, 58, 59, 60, 63, 64, 65, 71, 72, 73, 74, 81, 82, 83], FnOk f := all_cons fn9 (all_cons fn10 (all_cons fn12 (all_cons fn15 (all_cons fn16 (all_cons fn17 (all_cons fn19 (all_cons fn20 (all_cons fn21 (all_cons fn22 (all_cons fn23 (all_cons fn24 (all_cons fn25 (all_cons fn26 (all_cons fn27 (all_cons fn28 (all_cons fn35 (all_cons fn36 (all_cons fn37 (all_cons fn38 (all_cons fn39 (all_cons fn40 (all_cons fn41 (all_cons fn42 (all_cons fn43 (all_cons fn44 (all_cons fn45 (all_cons fn46 (all_cons fn47 (all_cons fn50 (all_cons fn51 (all_cons fn52 (all_cons fn53 (all_cons fn58 (all_cons fn59 (all_cons fn60 (all_cons fn63 (all_cons fn64 (all_cons fn65 (all_cons fn71 (all_cons fn72 (all_cons fn73 (all_cons fn74 (all_cons fn81 (all_cons fn82 (all_cons fn83 all_nil)))))))))))))))))))))))))))))))))))))))))))))
  exact fun f fn hx => h f (by simpa [X] using hx) fn
theorem ext_ok : ∀ g h l r, X.ext g = some h → h l = some r → (∃ fn, Tryd.prog.funcs[g]? = some fn ∧ fn.body.isNone = false ∧ (fn.name == "runtime.NumGoroutine") = false) ∧ IsoOk Tryd.prog X.G g l r := fun g h l r hg hr => by
  simp only [X] at hg
  split at hg
  · rename_i e
    subst e
    cases hg
    refine ⟨⟨Tryd.f62, Tryd.func62, by kernel_rfl, by kernel_rfl⟩, fun w H vs hsub hgr ha => ?_⟩
    simp only at hr
    split at hr
    · rename_i s c
      cases hr
      obtain ⟨v0, v1, rfl, h0, h1⟩ := args2 ha
      cases h0; cases h1
      refine (Tryd.strings_IndexByte s c w).mono fun e w' ⟨he, hw⟩ => ?_
      subst hw
      exact ⟨_, H, he, .refl _ _, .refl _, fun _ _ _ _ h => h, hsub, .int _ _⟩
    · cases hr
  · cases hg
theorem env : EnvOk Tryd.prog X := ⟨by kernel_rfl, fns_ok, ext_ok⟩
end Go.Proofs.YtfhojpnofmlkdaaDoor
