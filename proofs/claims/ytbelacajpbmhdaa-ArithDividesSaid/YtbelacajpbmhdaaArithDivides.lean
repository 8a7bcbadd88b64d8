/- ArithDivides answers true for every dividend and divisor, and changes nothing that existed; no conditions. -/
/-
  THE SHELL OF A PROOF OF 'Rows.ArithDividesSaid' ('backstep/backsteplaw01.ArithDivides'), WRITTEN BY PROGRAM (proof-skeleton.mjs) off the guide's own print for that function. Not trusted: Lean checks it.
  YOURS ARE THE HOLES MARKED 'HOLE' (each bears 'sorry'). ALL ELSE IS THE GUIDE's TEMPLATE (howto/template/XProofs.lean) at this function's number and types: leave it.
-/
import Derived.Test.YtbelacajpbmhdaaRows
import Derived.WalkKit
import Derived.ProofKit
import Derived.OpenShut
import Derived.Test.YtbelacajpbmhdaaAwake
import Derived.Test.YtbelacajpbmhdaaDiv
import Derived.WalkLawsBesides
import Derived.WalkSpells
import Derived.ShutString
namespace Go.Proofs.Ytbelacajpbmhdaa.arithDivides
open Go.ChangeShapes Go.WideShapes Go.ChangeAt Go.RowKit
open Go.ChangeMaps (open_string shut_string)
set_option linter.unusedSimpArgs false
set_option linter.unusedVariables false      -- a walk need not use every 'w<i>' (that an integer argument fits its kind)

theorem own : ownKnob Try.prog.godebug = none := by kernel_rfl

/-! ### STEP 1: THE WALK: the Go text returns true. 'Grown w w'': the world has at most new blocks (Derived/RowKit3.lean). Part the cases AHEAD of 'go_enter' where a test parts the walk; take each callee by a contract of your own. -/
theorem ret_bool {a : Bool} (h : a = true) : Ending.returned (.bool a) = .returned (.bool true) := by rw [h]
set_option maxHeartbeats 2000000 in
theorem walk (a0 : Int) (a1 : Int) (w0 : (Lit.int .i64 a0).wf = true) (w1 : (Lit.int .i64 a1).wf = true) (w : World) :
    Calls Try.prog 7 #[.int .i64 a0, .int .i64 a1] w fun e w' => e = .returned (.bool true) ∧ Grown w w' := by
  have bx := wf64 a0 w0
  have bv := wf64 a1 w1
  by_cases hy : a1 = 0
  · subst hy
    have v1 : apv 11 a0 0 = 0 := rfl
    have v2 : apv 12 a0 0 = 0 := rfl
    have v3 : ape 11 0 = 11 := rfl
    have v4 : ape 12 0 = 11 := rfl
    go_enter Try.func7, Try.ntmps7
    go_wp2_with (first | (go_at_call 10; refine (awake_any _).mono ?_; rintro e w' ⟨rfl, rfl⟩) | (go_at_call 11; refine (apply_any _ _ _ _).mono ?_; rintro e w' ⟨rfl, rfl⟩))
    go_ret
    exact ⟨by simp, Grown.refl _⟩
  · have v1 : apv 11 a0 a1 = wrap64 (a0.tdiv a1) := by unfold apv; simp [hy]
    have v2 : apv 12 a0 a1 = a0.tmod a1 := by unfold apv; simp [hy]
    have v3 : ape 11 a1 = 0 := by unfold ape; simp [hy]
    have v4 : ape 12 a1 = 0 := by unfold ape; simp [hy]
    have hb := div_back a0 a1 bx
    have hs := tmod_sign a0 a1
    have hm := tmod_small a0 a1 hy
    generalize wrap64 (a0.tdiv a1) = q at v1 hb
    generalize a0.tmod a1 = r at v2 hb hs hm
    have hr : -9223372036854775808 < r ∧ r ≤ 9223372036854775807 := by omega
    have hyb : (a1 == 0) = false := by simpa using hy
    have hb2 : (wrap64 (wrap64 (q * a1) + r) != a0) = false := by simpa using hb
    clear hb
    by_cases hx : 0 ≤ a0
    all_goals by_cases hx0 : a0 ≤ 0
    all_goals by_cases hr0 : 0 ≤ r
    all_goals first | (exfalso; omega) | skip
    all_goals by_cases hy0 : 0 ≤ a1
    all_goals
      go_enter Try.func7, Try.ntmps7
      go_wp2_with (first | (go_at_call 10; refine (awake_any _).mono ?_; rintro e w' ⟨rfl, rfl⟩) | (go_at_call 11; refine (apply_any _ _ _ _).mono ?_; rintro e w' ⟨rfl, rfl⟩))
    all_goals
      clear v1 v2 v3 v4 hb2 hyb
      go_ret
      exact ⟨ret_bool (by first | rfl | (simp only [Bool.or_eq_true, decide_eq_true_eq, beq_iff_eq]; simp only [wrap64] at *; omega)), Grown.refl _⟩

/-! ### THE ROW's STEP: WRITTEN OUT: LEAVE IT -/
set_option maxRecDepth 100000 in
theorem lifted (os : Os) (started : os.Started) (H : Type) (enc : TypeId × Value → H) :
    ReturnsInHanded {} Try.checked os 7 .any (Rows.arithDividesSpec.pre6 enc Try.prog Try.f7 Rows.arithDividesRow.domain false) (Rows.arithDividesSpec.post enc Try.prog Try.f7 false true false false) := by
  refine returnsInHanded_of_change (C := Try.checked) own started (by kernel_rfl) Try.func7
    (ChangeSpec.witness6 (enc := enc) (C := Try.checked) false ⟨#[], #[.int .i64 0, .int .i64 0], []⟩ 8 (by kernel_rfl) (by kernel_rfl) (by kernel_rfl) (by kernel_rfl)) ?_
  intro W base args ds gs before hval0 hW hcnd _
  have hval : ∀ (j : Nat) t v, Try.f7.params[j]? = some t → args[j]? = some v → Value.okWide Try.prog W .any base t v := hval0
  have hW' := hW
  obtain ⟨p, q, hA0, hV, rfl, hfz, hnd⟩ := hW
  have hA : DataW.TrodAll enc Try.prog W 0 (fun _ => true) true Try.f7.params.toList args.toList ds p := hA0
  rw [Try.params7] at hA hval
  obtain ⟨v0, vs0, d0, ds0, p0, q0, hargs, rfl, rfl, h0, r0⟩ := trodAll_cons hA
  obtain ⟨v1, vs1, d1, ds1, p1, q1, rfl, rfl, rfl, h1, r1⟩ := trodAll_cons r0
  obtain ⟨rfl, rfl, rfl⟩ := trodAll_nil r1
  obtain rfl : args = #[v0, v1] := by cases args; simp_all
  obtain ⟨rfl, rfl⟩ := trodVars_none hV
  obtain ⟨a0, rfl, rfl, rfl, w0⟩ := open_int Try.underlying3 (hval 0 3 v0 rfl rfl) h0
  obtain ⟨a1, rfl, rfl, rfl, w1⟩ := open_int Try.underlying3 (hval 1 3 v1 rfl rfl) h1
  clear hA0 hval0
  simp only [List.append_nil] at hW'
  refine (walk a0 a1 w0 w1 W).mono fun e W' ⟨he, hg⟩ => ?_
  subst he
  exact ⟨_, rfl, post_of_same (pa := []) (pv := []) hW' (fun _ _ _ => (trodAll_cons_mk (shut_bool Try.underlying4 _) trodAll_mk0)) (fun sp _ => (trodAll_cons_mk (shut_int Try.underlying3 w0) (trodAll_cons_mk (shut_int Try.underlying3 w1) trodAll_mk0))) (fun _ _ => rfl) rfl
    (hg.frame _) hg.2.1 (ok_one (by kernel_rfl) rfl (okWide_bool_mk Try.underlying4 _))⟩

theorem over : Rows.arithDividesRow.holds Try.pinned (OpenSpec.ofChange Rows.arithDividesSpec) :=
  OpenClaim.holds_of_wide 7 Try.f7 rfl rfl rfl rfl rfl rfl rfl ⟨rfl, rfl, rfl, rfl, rfl⟩ rfl rfl rfl rfl rfl (by kernel_rfl) Try.func7 (by kernel_rfl)
    (of_decide_eq_true (by kernel_rfl)) (by unfold Func.isWrapper; first | (rw [if_pos (by decide +kernel)]; kernel_rfl) | (rw [if_neg (by decide +kernel)]; exact ⟨rfl, rfl⟩))
    (fun os started H enc _ => lifted os started H enc)

/-- ████ THE STATEMENT ████ -/
theorem proved : Rows.ArithDividesSaid :=
  over
#print axioms proved
end Go.Proofs.Ytbelacajpbmhdaa.arithDivides
