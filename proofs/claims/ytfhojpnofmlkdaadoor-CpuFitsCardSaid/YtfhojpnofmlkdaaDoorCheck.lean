/- Check and Valid. -/
import Derived.Test.YtfhojpnofmlkdaaDoorRows
import Derived.WalkKit
import Derived.ProofKit
import Derived.OpenShut
import Derived.Below
import Derived.Lib.Hide
import Derived.Outline
import Derived.WalkLawsBesides
import Derived.WalkSpells
import Derived.WalkSmall
import Derived.IntWalk
import Derived.Deep.QuietTactic
import Derived.BigQuiet
import Derived.Deep.RegionHeld3
import Derived.StillTailTactics
import Derived.Handy
import Derived.Deep.Cut
import Derived.Deep.OwnRows
import Derived.Deep.RegionWith
import Derived.Test.YtfhojpnofmlkdaaDoorRegs
namespace Go.Proofs.YtfhojpnofmlkdaaDoor
open Go.ChangeShapes Go.WideShapes Go.ChangeAt Go.RowKit
set_option linter.unusedSimpArgs false
set_option linter.unusedVariables false
set_option maxRecDepth 100000
set_option maxRecDepth 100000
/-- the bounds of an image are broken -/
def rngB (m s : Int) : Bool := decide (m < 0) || (decide (16384 < m) || (decide (s < 1) || decide (16384 < s)))
def fb (l : List Ins) : Option Nat := (List.range l.length).find? (fun i => decide (flt l (regs l) i ≠ 0))
def ckI (l : List Ins) (m s : Int) : Int := if rngB m s = true then -1 else match fb l with | some i => (i : Int) | none => -1
def ckE (l : List Ins) (m s : Int) : Int := if rngB m s = true then 2 else match fb l with | some i => flt l (regs l) i | none => 0
theorem fb_none {l : List Ins} (h : ∀ j, j < l.length → flt l (regs l) j = 0) : fb l = none := by
  unfold fb
  rw [List.find?_eq_none]
  intro j hj
  have := h j (by simpa using hj)
  simp [this]
theorem fb_some {l : List Ins} {i : Nat} (hi : i < l.length) (h : ∀ j, j < i → flt l (regs l) j = 0) (hb : flt l (regs l) i ≠ 0) : fb l = some i := by
  unfold fb
  rw [List.find?_range_eq_some]
  exact ⟨by simpa using hb, by simpa using hi, fun j hj => by simp [h j hj]⟩
theorem regs_len (l : List Ins) : (regs l).length = l.length := by simp [regs]
theorem ret_two {a a' b b' : Int} (h1 : a = a') (h2 : b = b') : Ending.returned (.tuple #[.int .i64 a, .int .i64 b]) = .returned (.tuple #[.int .i64 a', .int .i64 b']) := by rw [h1, h2]
set_option maxRecDepth 100000 in
set_option maxHeartbeats 4000000 in
theorem check_any (a : Option Addr) (n cap : Nat) (m s : Int) (l : List Ins) (w : World) (h : SliceC w a l) (hn : l.length = n) (hw : WF l) (hL : Laid w) (hn2 : n ≤ 300) :
    Calls Tryd.prog 47 #[.agg #[.slice a n cap, .int .i64 m, .int .i64 s]] w fun e w' => e = .returned (.tuple #[.int .i64 (ckI l m s), .int .i64 (ckE l m s)]) ∧ Below w.heap.size w w' := by
  have HS := Lib.hid h
  have HL := Lib.hid hL
  clear h hL
  have HA : Hid (Below w.heap.size w (w.alloc (.cells #[.slice a n cap, .int .i64 m, .int .i64 s] 24))) := Lib.hid ((Below.refl _ _).alloc (Nat.le_refl _) _)
  have hd0 : decide ((65536 : Int) < (n : Int)) = false := by simp; omega
  have hd0' : ¬ (65536 : Int) < (n : Int) := by omega
  cases hr : rngB m s
  · have hI : ckI l m s = match fb l with | some i => (i : Int) | none => -1 := by unfold ckI; rw [hr]; rfl
    have hE : ckE l m s = match fb l with | some i => flt l (regs l) i | none => 0 := by unfold ckE; rw [hr]; rfl
    unfold rngB at hr
    simp only [Bool.or_eq_false_iff] at hr
    obtain ⟨r1, r2, r3, r4⟩ := hr
    have HII := Lib.hid hI
    have HEE := Lib.hid hE
    clear hI hE
    go_enter Tryd.func47, Tryd.ntmps47
    go_wp2_with (go_at_call 59; refine (regionsOf_any a n cap m s l _ (HS.out.below HA.out) hn hw (HL.out.below HA.out) hn2).mono ?_; rintro e w2 ⟨g, rfl, hsr, hb⟩; have HB := Lib.hid (below_on HA.out hb); have HSR := Lib.hid hsr; have i0 := cell_on (b := w.heap.size) (o := 0) (v := .slice a n cap) hb (by go_simp); have i1 := cell_on (b := w.heap.size) (o := 1) (v := .int .i64 m) hb (by go_simp); have i2 := cell_on (b := w.heap.size) (o := 2) (v := .int .i64 s) hb (by go_simp); clear hb hsr)
    have HI := Lib.hid (And.intro i0 (And.intro i1 i2))
    clear r1 r2 r3 r4 hd0 hd0'
    go_loopw [36] (fun x wr => ∃ k : Nat, k ≤ n ∧ x = .int .i64 k ∧ Hid (∀ j, j < k → flt l (regs l) j = 0) ∧ Hid (SliceR wr (some ⟨g, 0, none⟩) (regs l)) ∧ Hid (wr.cell? ⟨w.heap.size, 0, none⟩ = some (.slice a n cap) ∧ wr.cell? ⟨w.heap.size, 1, none⟩ = some (.int .i64 m) ∧ wr.cell? ⟨w.heap.size, 2, none⟩ = some (.int .i64 s)) ∧ Hid (Below w.heap.size w wr)) (fun x _ => n - (intOf x).toNat)
    case atStart => exact ⟨0, by omega, rfl, Lib.hid (fun j hj => by omega), HSR, HI, HB⟩
    case round =>
      clear HSR HI HB i0 i1 i2
      obtain ⟨k, hk, rfl, HZ, HSR, HI, HB⟩ := hrel
      by_cases hkn : k < n
      · have hdl : (k : Int) < (n : Int) := by omega
        obtain ⟨x, hx⟩ : ∃ x, l[k]? = some x := ⟨_, List.getElem?_eq_getElem (show k < l.length by omega)⟩
        have HX := Lib.hid hx
        obtain ⟨i0, i1, i2⟩ := id HI.out
        obtain ⟨f, hf⟩ : ∃ f, flt l (regs l) k = f := ⟨_, rfl⟩
        have HF := Lib.hid hf
        clear hx hf
        by_cases hf0 : f = 0
        · have hb0 : (f != 0) = false := by simpa using hf0
          have HF0 := Lib.hid hf0
          clear hf0
          go_wp2_with (go_at_call 60; refine (fault_any a (some ⟨g, 0, none⟩) n cap n n l (regs l) m s k x _ (HS.out.below HB.out) hn hw (HL.out.below HB.out) HSR.out ((regs_len l).trans hn) rfl HX.out).mono ?_; rw [HF.out]; rintro e w3 ⟨rfl, hb⟩; have HB3 := Lib.hid (below_on HB.out hb); have HSR3 := Lib.hid (HSR.out.below hb); have HI3 := Lib.hid (And.intro (cell_on hb i0) (And.intro (cell_on hb i1) (cell_on hb i2))); clear hb)
          go_roundw
          case rel => exact ⟨k + 1, by omega, by go_num, Lib.hid (fun j hj => by
            rcases Nat.lt_or_ge j k with h1 | h1
            · exact HZ.out j h1
            · have : j = k := by omega
              subst this
              exact HF.out.trans HF0.out), HSR3, HI3, HB3⟩
          case measure => simp [intOf]; omega
        · have hb0 : (f != 0) = true := by simpa using hf0
          have HF0 := Lib.hid hf0
          clear hf0
          go_wp2_with (go_at_call 60; refine (fault_any a (some ⟨g, 0, none⟩) n cap n n l (regs l) m s k x _ (HS.out.below HB.out) hn hw (HL.out.below HB.out) HSR.out ((regs_len l).trans hn) rfl HX.out).mono ?_; rw [HF.out]; rintro e w3 ⟨rfl, hb⟩; have HB3 := Lib.hid (below_on HB.out hb); clear hb)
          go_ret2
          have hfb : fb l = some k := fb_some (by omega) HZ.out (by rw [HF.out]; exact HF0.out)
          exact ⟨ret_two (by rw [HII.out, hfb]) (by rw [HEE.out, hfb]; exact HF.out.symm), HB3.out⟩
      · obtain rfl : k = n := by omega
        go_wp2
        go_ret2
        have hfb : fb l = none := fb_none (fun j hj => HZ.out j (by omega))
        exact ⟨ret_two (by rw [HII.out, hfb]) (by rw [HEE.out, hfb]), HB.out⟩
  · have hI : ckI l m s = -1 := by unfold ckI; rw [hr]; rfl
    have hE : ckE l m s = 2 := by unfold ckE; rw [hr]; rfl
    rw [hI, hE]
    unfold rngB at hr
    clear hI hE
    cases r1 : decide (m < 0)
    · rw [r1, Bool.false_or] at hr
      cases r2 : decide (16384 < m)
      · rw [r2, Bool.false_or] at hr
        cases r3 : decide (s < 1)
        · rw [r3, Bool.false_or] at hr
          go_enter Tryd.func47, Tryd.ntmps47
          go_wp2
          go_ret2
          exact ⟨rfl, HA.out⟩
        · clear hr
          go_enter Tryd.func47, Tryd.ntmps47
          go_wp2
          go_ret2
          exact ⟨rfl, HA.out⟩
      · clear hr
        go_enter Tryd.func47, Tryd.ntmps47
        go_wp2
        go_ret2
        exact ⟨rfl, HA.out⟩
    · clear hr
      go_enter Tryd.func47, Tryd.ntmps47
      go_wp2
      go_ret2
      exact ⟨rfl, HA.out⟩
theorem valid_img (a : Option Addr) (n cap : Nat) (m s : Int) (l : List Ins) (w : World) (h : SliceC w a l) (hn : l.length = n) (hw : WF l) (hL : Laid w) (hn2 : n ≤ 300) :
    Calls Tryd.prog 25 #[.agg #[.slice a n cap, .int .i64 m, .int .i64 s]] w fun e w' => e = .returned (.bool (ckE l m s == 0)) ∧ Below w.heap.size w w' := by
  have HS := Lib.hid h
  have HL := Lib.hid hL
  clear h hL
  have HA : Hid (Below w.heap.size w (w.alloc (.cells #[.slice a n cap, .int .i64 m, .int .i64 s] 24))) := Lib.hid ((Below.refl _ _).alloc (Nat.le_refl _) _)
  go_enter Tryd.func25, Tryd.ntmps25
  go_wp2_with (go_at_call 47; refine (check_any a n cap m s l _ (HS.out.below HA.out) hn hw (HL.out.below HA.out) hn2).mono ?_; rintro e w2 ⟨rfl, hb⟩; have HB := Lib.hid (below_on HA.out hb); clear hb)
  go_ret
  exact ⟨by simp, HB.out⟩
end Go.Proofs.YtfhojpnofmlkdaaDoor
