/- Contracts: the reference's Check. -/
import Derived.Test.YtalkhkhnpplofaaDoorRows
import Derived.WalkKit
import Derived.ProofKit
import Derived.OpenShut
import Derived.Below
import Derived.Lib.Hide
import Derived.Outline
import Derived.WalkLawsBesides
import Derived.WalkSpells
import Derived.WalkSmall
import Derived.IntWalk
import Derived.Deep.QuietTactic
import Derived.BigQuiet
import Derived.Deep.RegionHeld3
import Derived.StillTailTactics
import Derived.Handy
import Derived.Deep.Cut
import Derived.Deep.OwnRows
import Derived.Deep.RegionWith
import Derived.Test.YtalkhkhnpplofaaDoorRFault
namespace Go.Proofs.YtalkhkhnpplofaaDoor
open Go.ChangeShapes Go.WideShapes Go.ChangeAt Go.RowKit
set_option linter.unusedSimpArgs false
set_option linter.unusedVariables false

set_option maxRecDepth 100000 in
set_option maxHeartbeats 1600000 in
theorem rcheck_any (a : Option Addr) (n cap : Nat) (m s : Int) (l : List Ins) (w : World) (h : SliceC w a l) (hn : l.length = n) (hw : WF l) (hn2 : n ≤ 300) :
    Calls Tryd.prog 15 #[.agg #[.slice a n cap, .int .i64 m, .int .i64 s]] w fun e w' => e = .returned (.tuple #[.int .i64 (ckI l m s), .int .i64 (ckE l m s)]) ∧ Below w.heap.size w w' := by
  have HS := Lib.hid h
  have HN := Lib.hid hn
  clear h hn
  have HA : Hid (Below w.heap.size w (w.alloc (.cells #[.slice a n cap, .int .i64 m, .int .i64 s] 24))) := Lib.hid ((Below.refl _ _).alloc (Nat.le_refl _) _)
  have hd0 : decide ((65536 : Int) < (n : Int)) = false := by simp; omega
  cases hr : rngB m s
  · have hI : ckI l m s = match fb l with | some i => (i : Int) | none => -1 := by unfold ckI; rw [hr]; rfl
    have hE : ckE l m s = match fb l with | some i => flt l (regs l) i | none => 0 := by unfold ckE; rw [hr]; rfl
    unfold rngB at hr
    simp only [Bool.or_eq_false_iff] at hr
    obtain ⟨r1, r2, r3, r4⟩ := hr
    have HII := Lib.hid hI
    have HEE := Lib.hid hE
    clear hI hE
    go_enter Tryd.func15, Tryd.ntmps15
    go_wp2
    have i0 : (w.alloc (.cells #[.slice a n cap, .int .i64 m, .int .i64 s] 24)).cell? ⟨w.heap.size, 0, none⟩ = some (.slice a n cap) := by go_simp
    have HI := Lib.hid i0
    clear i0 r1 r2 r3 r4 hd0
    go_loopw [4] (fun x wr => ∃ k : Nat, k ≤ n ∧ x = .int .i64 k ∧ Hid (∀ j, j < k → flt l (regs l) j = 0) ∧ Hid (wr.cell? ⟨w.heap.size, 0, none⟩ = some (.slice a n cap)) ∧ Hid (Below w.heap.size w wr)) (fun x _ => n - (intOf x).toNat)
    case atStart => exact ⟨0, by omega, rfl, Lib.hid (fun j hj => by omega), HI, HA⟩
    case round =>
      clear HI HA
      obtain ⟨k, hk, rfl, HZ, HI, HB⟩ := hrel
      have i0 := HI.out
      by_cases hkn : k < n
      · have hdl : (k : Int) < (n : Int) := by omega
        obtain ⟨x, hx⟩ : ∃ x, l[k]? = some x := ⟨_, List.getElem?_eq_getElem (by have := HN.out; omega)⟩
        have HX := Lib.hid hx
        obtain ⟨f, hf⟩ : ∃ f, flt l (regs l) k = f := ⟨_, rfl⟩
        have HF := Lib.hid hf
        clear hx hf
        by_cases hf0 : f = 0
        · have hb0 : (f != 0) = false := by simpa using hf0
          have HF0 := Lib.hid hf0
          clear hf0
          go_wp2_with (go_at_call 33; refine (rfault_any a n cap l k x _ (HS.out.below HB.out) HN.out hw HX.out hn2).mono ?_; rw [HF.out]; rintro e w3 ⟨rfl, hb⟩; have HB3 := Lib.hid (below_on HB.out hb); have HI3 := Lib.hid (cell_on hb i0); clear hb)
          go_roundw
          case rel => exact ⟨k + 1, by omega, by go_num, Lib.hid (fun j hj => by
            rcases Nat.lt_or_ge j k with h1 | h1
            · exact HZ.out j h1
            · have : j = k := by omega
              subst this
              exact HF.out.trans HF0.out), HI3, HB3⟩
          case measure => simp [intOf]; omega
        · have hb0 : (f != 0) = true := by simpa using hf0
          have HF0 := Lib.hid hf0
          clear hf0
          go_wp2_with (go_at_call 33; refine (rfault_any a n cap l k x _ (HS.out.below HB.out) HN.out hw HX.out hn2).mono ?_; rw [HF.out]; rintro e w3 ⟨rfl, hb⟩; have HB3 := Lib.hid (below_on HB.out hb); clear hb)
          go_ret2
          have hfb : fb l = some k := fb_some (by have := HN.out; omega) HZ.out (by rw [HF.out]; exact HF0.out)
          exact ⟨ret_two (by rw [HII.out, hfb]) (by rw [HEE.out, hfb]; exact HF.out.symm), HB3.out⟩
      · obtain rfl : k = n := by omega
        go_wp2
        go_ret2
        have hfb : fb l = none := fb_none (fun j hj => HZ.out j (by have := HN.out; omega))
        exact ⟨ret_two (by rw [HII.out, hfb]) (by rw [HEE.out, hfb]), HB.out⟩
  · have hI : ckI l m s = -1 := by unfold ckI; rw [hr]; rfl
    have hE : ckE l m s = 2 := by unfold ckE; rw [hr]; rfl
    rw [hI, hE]
    unfold rngB at hr
    clear hI hE
    cases r1 : decide (m < 0)
    · rw [r1, Bool.false_or] at hr
      cases r2 : decide (16384 < m)
      · rw [r2, Bool.false_or] at hr
        cases r3 : decide (s < 1)
        · rw [r3, Bool.false_or] at hr
          go_enter Tryd.func15, Tryd.ntmps15
          go_wp2
          go_ret2
          exact ⟨rfl, HA.out⟩
        · clear hr
          go_enter Tryd.func15, Tryd.ntmps15
          go_wp2
          go_ret2
          exact ⟨rfl, HA.out⟩
      · clear hr
        go_enter Tryd.func15, Tryd.ntmps15
        go_wp2
        go_ret2
        exact ⟨rfl, HA.out⟩
    · clear hr
      go_enter Tryd.func15, Tryd.ntmps15
      go_wp2
      go_ret2
      exact ⟨rfl, HA.out⟩
end Go.Proofs.YtalkhkhnpplofaaDoor
