/- TapePairs answers true for all sequences and every operation, and changes nothing that existed; no conditions. -/
import Derived.Test.YthbeillgpnffmaaRows
import Derived.WalkKit
import Derived.ProofKit
import Derived.OpenShut
import Derived.ShutString
import Derived.ChangeOld
import Derived.Below
import Derived.Test.YthbeillgpnffmaaSteps
import Derived.Lib.Hide
import Derived.WalkSmall
import Derived.WalkSpells
import Derived.WalkLawsBesides
import Derived.IntWalk
import Derived.Outline
import Derived.Deep.QuietTactic
import Derived.BigQuiet
import Derived.Deep.RegionWith
namespace Go.Proofs.Ythbeillgpnffmaa.tapePairs
open Go.ChangeShapes Go.WideShapes Go.ChangeAt Go.RowKit
open Go.ChangeMaps (open_string shut_string)
set_option linter.unusedSimpArgs false
set_option linter.unusedVariables false

theorem own : ownKnob Try.prog.godebug = none := by kernel_rfl
theorem laidOut : laidOutB Try.prog = true := by kernel_rfl

set_option maxRecDepth 100000 in
set_option maxHeartbeats 1000000 in
theorem walk (a0 : Option Addr) (n0 cap0 : Nat) (l0 : List Int) (a1 : Option Addr) (n1 cap1 : Nat) (l1 : List Int) (k2 n2 : Int) (w : World) (w0 : l0.length = n0) (x0 : SliceI w a0 l0) (y0 : n0 ≤ cap0) (w1 : l1.length = n1) (x1 : SliceI w a1 l1) (y1 : n1 ≤ cap1)  :
    Calls Try.prog 6 #[.slice a0 n0 cap0, .slice a1 n1 cap1, .agg #[.int .i64 k2, .int .i64 n2]] w fun e w' => e = .returned (.bool true) ∧ Below w.heap.size w w' := by
  have HA : Hid (Below w.heap.size w (w.alloc (.cells #[.int .i64 k2, .int .i64 n2] 37))) := Lib.hid ((Below.refl _ _).alloc (Nat.le_refl _) _)
  have KB0 : Hid ((w.alloc (.cells #[.int .i64 k2, .int .i64 n2] 37)).cell? ⟨w.heap.size, 0, none⟩ = some (.int .i64 k2)) := Lib.hid (by rw [cell_of_row _ _ _ _ _ (0, 0) (heap_alloc_new w _)]; rfl)
  have KB1 : Hid ((w.alloc (.cells #[.int .i64 k2, .int .i64 n2] 37)).cell? ⟨w.heap.size, 1, none⟩ = some (.int .i64 n2)) := Lib.hid (by rw [cell_of_row _ _ _ _ _ (0, 0) (heap_alloc_new w _)]; rfl)
  subst w0 w1
  have HX0 := Lib.hid (x0.below HA.out)
  have HX1 := Lib.hid (x1.below HA.out)
  clear x0 x1
  by_cases hg : 5000 < l0.length ∨ 5000 < l1.length
  · have hgr : Hid (greatB l0.length l1.length 0 = true) := Lib.hid (by unfold greatB; rcases hg with h | h <;> simp [h])
    go_enter Try.func6, Try.ntmps6
    go_wp2_with (first | (go_at_call 11; refine (awake_any _).mono ?_; rintro e w1 ⟨rfl, hb⟩; have HB := Lib.hid hb; clear hb) | (go_at_call 12; refine (great_any _ _ _ _ _ _ _ _ _ _).mono ?_; rintro e w1 ⟨rfl, rfl⟩; rw [hgr.out]))
    go_ret
    exact ⟨rfl, HA.out.trans (HB.out.mono HA.out.size)⟩
  have hgr : Hid (greatB l0.length l1.length 0 = false) := Lib.hid (by unfold greatB; simp; omega)
  clear hg
  by_cases hf : 4096 < l0.length ∨ 4096 < l1.length
  · go_enter Try.func6, Try.ntmps6
    go_wp2_with (first | (go_at_call 11; refine (awake_any _).mono ?_; rintro e w1 ⟨rfl, hb⟩; have HB := Lib.hid hb; clear hb) | (go_at_call 12; refine (great_any _ _ _ _ _ _ _ _ _ _).mono ?_; rintro e w1 ⟨rfl, rfl⟩; rw [hgr.out]) | (go_at_call 13; refine (new_full _ _ _ _ _ _ _ hf).mono ?_; rintro e w1 ⟨rfl, rfl⟩))
    go_ret
    exact ⟨rfl, HA.out.trans (HB.out.mono HA.out.size)⟩
  have hB0 : l0.length ≤ 4096 := by omega
  have hB1 : l1.length ≤ 4096 := by omega
  clear hf
  obtain ⟨i', o', r, er, hst⟩ : ∃ i' o' r er, stepT k2 n2 l0 l1 = (i', o', r, er) := ⟨_, _, _, _, rfl⟩
  by_cases he : er = 0
  · subst he
    obtain ⟨q1, q2, q3⟩ := step_inv k2 n2 l0 l1 i' o' r hst hB0 hB1
    have HST := Lib.hid hst
    obtain ⟨ik, hik⟩ : ∃ x, x = invK k2 := ⟨_, rfl⟩
    obtain ⟨inn, hin⟩ : ∃ x, x = invN k2 r := ⟨_, rfl⟩
    rw [← hik, ← hin] at q1
    have HIK := Lib.hid hik
    have HIN := Lib.hid hin
    have HQ := Lib.hid q1
    clear hst q1 hik hin
    by_cases hk2 : k2 = 2
    · have hbr : backR k2 n2 = n2 := by unfold backR; rw [if_pos hk2]
      rw [hbr] at HQ
      have m2 : (k2 == 2) = true := by simpa using hk2
      have m4 : (k2 != 2) = false := by simpa using hk2
      clear hk2
      go_enter Try.func6, Try.ntmps6
      go_wp2_with (first | (go_at_call 11; refine (awake_any _).mono ?_; rintro e w1 ⟨rfl, hb⟩; have HB := Lib.hid hb; clear hb) | (go_at_call 12; refine (great_any _ _ _ _ _ _ _ _ _ _).mono ?_; rintro e w1 ⟨rfl, rfl⟩; rw [hgr.out]) | (go_at_call 13; refine (newB (w.alloc (.cells #[.int .i64 k2, .int .i64 n2] 37)) _ _ _ _ l0 l1 _ HB.out (HX0.out.below HB.out) (HX1.out.below HB.out) (by omega) (by omega)).mono ?_; rintro e w2 ⟨p, rfl, ht, -⟩; have HT := Lib.hid ht; clear ht; have cb0 := (HT.out.bel.cell (p := ⟨w.heap.size, 0, none⟩) (by simp)).trans KB0.out; have cb1 := (HT.out.bel.cell (p := ⟨w.heap.size, 1, none⟩) (by simp)).trans KB1.out) | (go_at_call 18; refine (inverse_any _ _ _ _).mono ?_; rintro e w3 ⟨rfl, hb⟩; rw [← HIK.out, ← HIN.out]; replace HT := Lib.hid (HT.out.below hb); clear hb cb0 cb1; have cb0 := (HT.out.bel.cell (p := ⟨w.heap.size, 0, none⟩) (by simp)).trans KB0.out; have cb1 := (HT.out.bel.cell (p := ⟨w.heap.size, 1, none⟩) (by simp)).trans KB1.out) | (go_at_call_of 16 n2; refine (doB (w.alloc (.cells #[.int .i64 k2, .int .i64 n2] 37)) _ p k2 n2 l0 l1 i' o' r 0 HT.out (by omega) HST.out).mono ?_; rintro e w3 ⟨rfl, ht⟩; replace HT := Lib.hid ht; clear ht cb0 cb1; have cb0 := (HT.out.bel.cell (p := ⟨w.heap.size, 0, none⟩) (by simp)).trans KB0.out; have cb1 := (HT.out.bel.cell (p := ⟨w.heap.size, 1, none⟩) (by simp)).trans KB1.out) | (go_at_call_of 16 ik; refine (doB (w.alloc (.cells #[.int .i64 k2, .int .i64 n2] 37)) _ p ik inn i' o' l0 l1 n2 0 HT.out (by omega) HQ.out).mono ?_; rintro e w3 ⟨rfl, ht⟩; replace HT := Lib.hid ht; clear ht cb0 cb1; have cb0 := (HT.out.bel.cell (p := ⟨w.heap.size, 0, none⟩) (by simp)).trans KB0.out; have cb1 := (HT.out.bel.cell (p := ⟨w.heap.size, 1, none⟩) (by simp)).trans KB1.out) | (go_at_call 15; refine (sameB (w.alloc (.cells #[.int .i64 k2, .int .i64 n2] 37)) _ p l0 l1 _ _ _ _ HT.out (HX0.out.below HT.out.bel) (HX1.out.below HT.out.bel) (by omega) (by omega)).mono ?_; rintro e w3 ⟨rfl, ht, -⟩; replace HT := Lib.hid ht; clear ht))
      go_ret
      exact ⟨rfl, HA.out.trans (HT.out.bel.mono HA.out.size)⟩
    · by_cases hk3 : k2 = 3
      · have hbr : backR k2 n2 = n2 := by unfold backR; rw [if_neg hk2, if_pos hk3]
        rw [hbr] at HQ
        have m2 : (k2 == 2) = false := by simpa using hk2
        have m3 : (k2 == 3) = true := by simpa using hk3
        have m4 : (k2 != 2) = true := by simpa using hk2
        have m5 : (k2 != 3) = false := by simpa using hk3
        clear hk2 hk3
        go_enter Try.func6, Try.ntmps6
        go_wp2_with (first | (go_at_call 11; refine (awake_any _).mono ?_; rintro e w1 ⟨rfl, hb⟩; have HB := Lib.hid hb; clear hb) | (go_at_call 12; refine (great_any _ _ _ _ _ _ _ _ _ _).mono ?_; rintro e w1 ⟨rfl, rfl⟩; rw [hgr.out]) | (go_at_call 13; refine (newB (w.alloc (.cells #[.int .i64 k2, .int .i64 n2] 37)) _ _ _ _ l0 l1 _ HB.out (HX0.out.below HB.out) (HX1.out.below HB.out) (by omega) (by omega)).mono ?_; rintro e w2 ⟨p, rfl, ht, -⟩; have HT := Lib.hid ht; clear ht; have cb0 := (HT.out.bel.cell (p := ⟨w.heap.size, 0, none⟩) (by simp)).trans KB0.out; have cb1 := (HT.out.bel.cell (p := ⟨w.heap.size, 1, none⟩) (by simp)).trans KB1.out) | (go_at_call 18; refine (inverse_any _ _ _ _).mono ?_; rintro e w3 ⟨rfl, hb⟩; rw [← HIK.out, ← HIN.out]; replace HT := Lib.hid (HT.out.below hb); clear hb cb0 cb1; have cb0 := (HT.out.bel.cell (p := ⟨w.heap.size, 0, none⟩) (by simp)).trans KB0.out; have cb1 := (HT.out.bel.cell (p := ⟨w.heap.size, 1, none⟩) (by simp)).trans KB1.out) | (go_at_call_of 16 n2; refine (doB (w.alloc (.cells #[.int .i64 k2, .int .i64 n2] 37)) _ p k2 n2 l0 l1 i' o' r 0 HT.out (by omega) HST.out).mono ?_; rintro e w3 ⟨rfl, ht⟩; replace HT := Lib.hid ht; clear ht cb0 cb1; have cb0 := (HT.out.bel.cell (p := ⟨w.heap.size, 0, none⟩) (by simp)).trans KB0.out; have cb1 := (HT.out.bel.cell (p := ⟨w.heap.size, 1, none⟩) (by simp)).trans KB1.out) | (go_at_call_of 16 ik; refine (doB (w.alloc (.cells #[.int .i64 k2, .int .i64 n2] 37)) _ p ik inn i' o' l0 l1 n2 0 HT.out (by omega) HQ.out).mono ?_; rintro e w3 ⟨rfl, ht⟩; replace HT := Lib.hid ht; clear ht cb0 cb1; have cb0 := (HT.out.bel.cell (p := ⟨w.heap.size, 0, none⟩) (by simp)).trans KB0.out; have cb1 := (HT.out.bel.cell (p := ⟨w.heap.size, 1, none⟩) (by simp)).trans KB1.out) | (go_at_call 15; refine (sameB (w.alloc (.cells #[.int .i64 k2, .int .i64 n2] 37)) _ p l0 l1 _ _ _ _ HT.out (HX0.out.below HT.out.bel) (HX1.out.below HT.out.bel) (by omega) (by omega)).mono ?_; rintro e w3 ⟨rfl, ht, -⟩; replace HT := Lib.hid ht; clear ht))
        go_ret
        exact ⟨rfl, HA.out.trans (HT.out.bel.mono HA.out.size)⟩
      · have hbr : backR k2 n2 = 0 := by unfold backR; rw [if_neg hk2, if_neg hk3]
        rw [hbr] at HQ
        have m2 : (k2 == 2) = false := by simpa using hk2
        have m3 : (k2 == 3) = false := by simpa using hk3
        have m4 : (k2 != 2) = true := by simpa using hk2
        have m5 : (k2 != 3) = true := by simpa using hk3
        go_enter Try.func6, Try.ntmps6
        go_wp2_with (first | (go_at_call 11; refine (awake_any _).mono ?_; rintro e w1 ⟨rfl, hb⟩; have HB := Lib.hid hb; clear hb) | (go_at_call 12; refine (great_any _ _ _ _ _ _ _ _ _ _).mono ?_; rintro e w1 ⟨rfl, rfl⟩; rw [hgr.out]) | (go_at_call 13; refine (newB (w.alloc (.cells #[.int .i64 k2, .int .i64 n2] 37)) _ _ _ _ l0 l1 _ HB.out (HX0.out.below HB.out) (HX1.out.below HB.out) (by omega) (by omega)).mono ?_; rintro e w2 ⟨p, rfl, ht, -⟩; have HT := Lib.hid ht; clear ht; have cb0 := (HT.out.bel.cell (p := ⟨w.heap.size, 0, none⟩) (by simp)).trans KB0.out; have cb1 := (HT.out.bel.cell (p := ⟨w.heap.size, 1, none⟩) (by simp)).trans KB1.out) | (go_at_call 18; refine (inverse_any _ _ _ _).mono ?_; rintro e w3 ⟨rfl, hb⟩; rw [← HIK.out, ← HIN.out]; replace HT := Lib.hid (HT.out.below hb); clear hb cb0 cb1; have cb0 := (HT.out.bel.cell (p := ⟨w.heap.size, 0, none⟩) (by simp)).trans KB0.out; have cb1 := (HT.out.bel.cell (p := ⟨w.heap.size, 1, none⟩) (by simp)).trans KB1.out) | (go_at_call_of 16 n2; refine (doB (w.alloc (.cells #[.int .i64 k2, .int .i64 n2] 37)) _ p k2 n2 l0 l1 i' o' r 0 HT.out (by omega) HST.out).mono ?_; rintro e w3 ⟨rfl, ht⟩; replace HT := Lib.hid ht; clear ht cb0 cb1; have cb0 := (HT.out.bel.cell (p := ⟨w.heap.size, 0, none⟩) (by simp)).trans KB0.out; have cb1 := (HT.out.bel.cell (p := ⟨w.heap.size, 1, none⟩) (by simp)).trans KB1.out) | (go_at_call_of 16 ik; refine (doB (w.alloc (.cells #[.int .i64 k2, .int .i64 n2] 37)) _ p ik inn i' o' l0 l1 0 0 HT.out (by omega) HQ.out).mono ?_; rintro e w3 ⟨rfl, ht⟩; replace HT := Lib.hid ht; clear ht cb0 cb1; have cb0 := (HT.out.bel.cell (p := ⟨w.heap.size, 0, none⟩) (by simp)).trans KB0.out; have cb1 := (HT.out.bel.cell (p := ⟨w.heap.size, 1, none⟩) (by simp)).trans KB1.out) | (go_at_call 15; refine (sameB (w.alloc (.cells #[.int .i64 k2, .int .i64 n2] 37)) _ p l0 l1 _ _ _ _ HT.out (HX0.out.below HT.out.bel) (HX1.out.below HT.out.bel) (by omega) (by omega)).mono ?_; rintro e w3 ⟨rfl, ht, -⟩; replace HT := Lib.hid ht; clear ht))
        go_ret
        exact ⟨rfl, HA.out.trans (HT.out.bel.mono HA.out.size)⟩
  · obtain ⟨rfl, rfl, rfl⟩ := step_err k2 n2 l0 l1 i' o' r er hst he
    have HST := Lib.hid hst
    clear hst
    have m1 : (er == 0) = false := by simpa using he
    go_enter Try.func6, Try.ntmps6
    go_wp2_with (first | (go_at_call 11; refine (awake_any _).mono ?_; rintro e w1 ⟨rfl, hb⟩; have HB := Lib.hid hb; clear hb) | (go_at_call 12; refine (great_any _ _ _ _ _ _ _ _ _ _).mono ?_; rintro e w1 ⟨rfl, rfl⟩; rw [hgr.out]) | (go_at_call 13; refine (newB (w.alloc (.cells #[.int .i64 k2, .int .i64 n2] 37)) _ _ _ _ i' o' _ HB.out (HX0.out.below HB.out) (HX1.out.below HB.out) (by omega) (by omega)).mono ?_; rintro e w2 ⟨p, rfl, ht, -⟩; have HT := Lib.hid ht; clear ht; have cb0 := (HT.out.bel.cell (p := ⟨w.heap.size, 0, none⟩) (by simp)).trans KB0.out; have cb1 := (HT.out.bel.cell (p := ⟨w.heap.size, 1, none⟩) (by simp)).trans KB1.out) | (go_at_call_of 16 n2; refine (doB (w.alloc (.cells #[.int .i64 k2, .int .i64 n2] 37)) _ p k2 n2 i' o' i' o' 0 er HT.out (by omega) HST.out).mono ?_; rintro e w3 ⟨rfl, ht⟩; replace HT := Lib.hid ht; clear ht cb0 cb1; have cb0 := (HT.out.bel.cell (p := ⟨w.heap.size, 0, none⟩) (by simp)).trans KB0.out; have cb1 := (HT.out.bel.cell (p := ⟨w.heap.size, 1, none⟩) (by simp)).trans KB1.out) | (go_at_call 15; refine (sameB (w.alloc (.cells #[.int .i64 k2, .int .i64 n2] 37)) _ p i' o' _ _ _ _ HT.out (HX0.out.below HT.out.bel) (HX1.out.below HT.out.bel) (by omega) (by omega)).mono ?_; rintro e w3 ⟨rfl, ht, -⟩; replace HT := Lib.hid ht; clear ht))
    go_ret
    exact ⟨rfl, HA.out.trans (HT.out.bel.mono HA.out.size)⟩

set_option maxRecDepth 100000 in
theorem lifted (os : Os) (started : os.Started) (H : Type) (enc : TypeId × Value → H) :
    ReturnsInHanded {} Try.checked os 6 .any (Rows.tapePairsSpec.pre6 enc Try.prog Try.f6 Rows.tapePairsRow.domain false) (Rows.tapePairsSpec.post enc Try.prog Try.f6 false true false false) := by
  refine returnsInHanded_of_change (C := Try.checked) own started (by kernel_rfl) Try.func6
    (ChangeSpec.witness6 (enc := enc) (C := Try.checked) false ⟨#[], #[.slice none 0 0, .slice none 0 0, .agg #[.int .i64 0, .int .i64 0]], []⟩ 8 (by kernel_rfl) (by kernel_rfl) (by kernel_rfl) (by kernel_rfl)) ?_
  intro W base args ds gs before hval0 hW hcnd _
  have hval : ∀ (j : Nat) t v, Try.f6.params[j]? = some t → args[j]? = some v → Value.okWide Try.prog W .any base t v := hval0
  have hW' := hW
  obtain ⟨p, q, hA0, hV, rfl, hfz, hnd⟩ := hW
  have hA : DataW.TrodAll enc Try.prog W 0 (fun _ => true) true Try.f6.params.toList args.toList ds p := hA0
  rw [Try.params6] at hA hval
  obtain ⟨v0, vs0, d0, ds0, p0, q0, hargs, rfl, rfl, h0, r0⟩ := trodAll_cons hA
  obtain ⟨v1, vs1, d1, ds1, p1, q1, rfl, rfl, rfl, h1, r1⟩ := trodAll_cons r0
  obtain ⟨v2, vs2, d2, ds2, p2, q2, rfl, rfl, rfl, h2, r2⟩ := trodAll_cons r1
  obtain ⟨rfl, rfl, rfl⟩ := trodAll_nil r2
  obtain rfl : args = #[v0, v1, v2] := by cases args; simp_all
  obtain ⟨rfl, rfl⟩ := trodVars_none hV
  have k0 := h0
  have lt0 : ∀ x ∈ p0, x.block < W.heap.size := by obtain ⟨m, hm⟩ := k0; exact DataW.trod_lt m _ _ _ hm
  obtain ⟨a0, n0, cap0, l0, rfl, w0, x0, y0⟩ := open_intsS (hval 0 22 v0 rfl rfl) h0
  have k1 := h1
  have lt1 : ∀ x ∈ p1, x.block < W.heap.size := by obtain ⟨m, hm⟩ := k1; exact DataW.trod_lt m _ _ _ hm
  obtain ⟨a1, n1, cap1, l1, rfl, w1, x1, y1⟩ := open_intsS (hval 1 22 v1 rfl rfl) h1
  have k2 := h2
  have lt2 : ∀ x ∈ p2, x.block < W.heap.size := by obtain ⟨m, hm⟩ := k2; exact DataW.trod_lt m _ _ _ hm
  obtain ⟨K2, N2, rfl⟩ := open_op (hval 2 37 v2 rfl rfl) h2
  clear hA0 hval0
  refine (walk a0 n0 cap0 l0 a1 n1 cap1 l1 K2 N2 W w0 x0 y0 w1 x1 y1 ).mono fun e W' ⟨he, bel⟩ => ?_
  subst he
  exact ⟨_, rfl, _, _, _, [], _, [], hW', trodAll_mk1 (shut_bool Try.underlying4 _), (trodAll_cons_mk (Below.trod laidOut (by kernel_rfl) (of_decide_eq_true (by kernel_rfl)) k0 bel lt0) (trodAll_cons_mk (Below.trod laidOut (by kernel_rfl) (of_decide_eq_true (by kernel_rfl)) k1 bel lt1) (trodAll_cons_mk (Below.trod laidOut (by kernel_rfl) (of_decide_eq_true (by kernel_rfl)) k2 bel lt2) trodAll_mk0))), rfl, bel.frame _, fun h => by cases h⟩

theorem over : Rows.tapePairsRow.holds Try.pinned (OpenSpec.ofChange Rows.tapePairsSpec) :=
  OpenClaim.holds_of_wide 6 Try.f6 rfl rfl rfl rfl rfl rfl rfl ⟨rfl, rfl, rfl, rfl, rfl⟩ rfl rfl rfl rfl rfl (by kernel_rfl) Try.func6 (by kernel_rfl)
    (of_decide_eq_true (by kernel_rfl)) (by unfold Func.isWrapper; first | (rw [if_pos (by decide +kernel)]; kernel_rfl) | (rw [if_neg (by decide +kernel)]; exact ⟨rfl, rfl⟩))
    (fun os started H enc _ => lifted os started H enc)

theorem proved : Rows.TapePairsSaid := over
#print axioms proved
end Go.Proofs.Ythbeillgpnffmaa.tapePairs
