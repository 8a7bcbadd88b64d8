/- Contracts: the reference's region. -/
import Derived.Test.YtalkhkhnpplofaaDoorRows
import Derived.WalkKit
import Derived.ProofKit
import Derived.OpenShut
import Derived.Below
import Derived.Lib.Hide
import Derived.Outline
import Derived.WalkLawsBesides
import Derived.WalkSpells
import Derived.WalkSmall
import Derived.IntWalk
import Derived.Deep.QuietTactic
import Derived.BigQuiet
import Derived.Deep.RegionHeld3
import Derived.StillTailTactics
import Derived.Handy
import Derived.Deep.Cut
import Derived.Deep.OwnRows
import Derived.Deep.RegionWith
import Derived.Test.YtalkhkhnpplofaaDoorRgn
import Derived.Test.YtalkhkhnpplofaaDoorRPart
namespace Go.Proofs.YtalkhkhnpplofaaDoor
open Go.ChangeShapes Go.WideShapes Go.ChangeAt Go.RowKit
set_option linter.unusedSimpArgs false
set_option linter.unusedVariables false

theorem rop_no {l : List Ins} {i : Nat} {skip : Int} {s : Nat} (h : (s : Int) = skip ∨ (l[s]?).map (·.k) ≠ some 32 ∨ ¬ (i : Int) ≤ rp l s) : rop l i skip s = false := by
  unfold rop
  rcases h with h | h | h
  · rw [decide_eq_false (by simpa using h)]; rfl
  · have : ((l[s]?).map (·.k) == some 32) = false := by simpa using h
    rw [this]; simp
  · rw [decide_eq_false h]; simp
set_option maxRecDepth 100000 in
set_option maxHeartbeats 2000000 in
theorem region_any (a : Option Addr) (n cap : Nat) (l : List Ins) (i : Nat) (skip : Int) (w : World) (h : SliceC w a l) (hn : l.length = n) (hw : WF l) (hi : i < n) (hm : n ≤ 300) :
    Calls Tryd.prog 47 #[.slice a n cap, .int .i64 i, .int .i64 skip] w fun e w' => e = .returned (.int .i64 (rgn l i skip)) ∧ Below w.heap.size w w' := by
  have HS := Lib.hid h
  have HN := Lib.hid hn
  clear h hn
  go_enter Tryd.func47, Tryd.ntmps47
  go_wp2
  go_loopw [7] (fun x wr => ∃ z : Int, -1 ≤ z ∧ z ≤ i ∧ x = .int .i64 z ∧ Hid (∀ s : Nat, z < (s : Int) → s < i + 1 → rop l i skip s = false) ∧ Hid (Below w.heap.size w wr)) (fun x _ => (intOf x + 1).toNat)
  case atStart => exact ⟨i, by omega, by omega, rfl, Lib.hid (fun s h1 h2 => by omega), Lib.hid (Below.refl _ _)⟩
  case round =>
    rename_i x wr
    obtain ⟨z, hz1, hz2, rfl, HZ, HB⟩ := hrel
    by_cases hz : z < 0
    · have hzm : z = -1 := by omega
      subst hzm
      go_wp2
      go_ret
      exact ⟨ret_int (gst_none fun s hs => HZ.out s (by omega) hs).symm, HB.out⟩
    · obtain ⟨j, rfl⟩ : ∃ j : Nat, z = j := ⟨z.toNat, by omega⟩
      have hjn : (j : Int) < (n : Int) := by omega
      obtain ⟨x, hx⟩ : ∃ x, l[j]? = some x := ⟨_, List.getElem?_eq_getElem (by have := HN.out; omega)⟩
      have HX := Lib.hid hx
      have hdg : decide (0 ≤ (j : Int)) = true := by simp
      obtain ⟨b, o, rfl, hbl, c0, c1, c2, c3, c4⟩ := (HS.out.below HB.out).at hx
      have HF := Lib.hid (fun (hno : rop l i skip j = false) => (show ∀ s : Nat, (j : Int) - 1 < (s : Int) → s < i + 1 → rop l i skip s = false from fun s h1 h2 => by
        by_cases e : s = j
        · subst e; exact hno
        · exact HZ.out s (by omega) h2))
      clear hx
      by_cases h1 : (j : Int) = skip
      · have hb1 : ((j : Int) != skip) = false := by simpa using h1
        have HG := Lib.hid (HF.out (rop_no (.inl h1)))
        clear h1
        go_wp2
        go_roundw
        case rel => exact ⟨(j : Int) - 1, by omega, by omega, rfl, HG, HB⟩
        case measure => simp [intOf]
      have hb1 : ((j : Int) != skip) = true := by simpa using h1
      have H1 := Lib.hid h1
      clear h1
      by_cases h2 : x.k = 32
      · have hb2 : (x.k == 32) = true := by simpa using h2
        have H2 := Lib.hid h2
        clear h2
        by_cases h3 : (i : Int) ≤ rp l j
        · have hb3 : decide ((i : Int) ≤ rp l j) = true := decide_eq_true h3
          have hr : rgn l i skip = j := gst_some (by omega) (by unfold rop; rw [decide_eq_true H1.out, HX.out, hb3]; simp [H2.out]) (fun s h4 h5 => HZ.out s (by omega) h5)
          have HR := Lib.hid hr
          clear hr h3
          go_wp2_with (go_at_call 18; refine (rpartner_any _ n cap l j _ (HS.out.below HB.out) HN.out hw).mono ?_; rintro e w2 ⟨rfl, hb⟩; have HB2 := Lib.hid (below_on HB.out hb); clear hb)
          go_ret
          exact ⟨ret_int HR.out.symm, HB2.out⟩
        · have hb3 : decide ((i : Int) ≤ rp l j) = false := decide_eq_false h3
          have HG := Lib.hid (HF.out (rop_no (.inr (.inr h3))))
          clear h3
          go_wp2_with (go_at_call 18; refine (rpartner_any _ n cap l j _ (HS.out.below HB.out) HN.out hw).mono ?_; rintro e w2 ⟨rfl, hb⟩; have HB2 := Lib.hid (below_on HB.out hb); clear hb)
          go_roundw
          case rel => exact ⟨(j : Int) - 1, by omega, by omega, rfl, HG, HB2⟩
          case measure => simp [intOf]
      · have hb2 : (x.k == 32) = false := by simpa using h2
        have HG := Lib.hid (HF.out (rop_no (.inr (.inl (by rw [HX.out]; simpa using h2)))))
        clear h2
        go_wp2
        go_roundw
        case rel => exact ⟨(j : Int) - 1, by omega, by omega, rfl, HG, HB⟩
        case measure => simp [intOf]
end Go.Proofs.YtalkhkhnpplofaaDoor
