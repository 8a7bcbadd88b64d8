/- TapeFull answers true for every byte and every number, and changes nothing that existed; no conditions. -/
import Derived.Test.YthbeillgpnffmaaRows
import Derived.WalkKit
import Derived.ProofKit
import Derived.OpenShut
import Derived.ShutString
import Derived.ChangeOld
import Derived.Below
import Derived.Test.YthbeillgpnffmaaEqs
import Derived.Lib.Hide
import Derived.WalkSmall
import Derived.WalkSpells
import Derived.WalkLawsBesides
import Derived.IntWalk
import Derived.Outline
import Derived.Deep.QuietTactic
import Derived.BigQuiet
import Derived.Deep.RegionWith
namespace Go.Proofs.Ythbeillgpnffmaa.tapeFull
open Go.ChangeShapes Go.WideShapes Go.ChangeAt Go.RowKit
open Go.ChangeMaps (open_string shut_string)
set_option linter.unusedSimpArgs false
set_option linter.unusedVariables false

theorem own : ownKnob Try.prog.godebug = none := by kernel_rfl
theorem laidOut : laidOutB Try.prog = true := by kernel_rfl

set_option maxRecDepth 100000 in
set_option maxHeartbeats 1000000 in
theorem walk (a0 : Int) (a1 : Int) (w : World) (w0 : (Lit.int .u8 a0).wf = true) (w1 : (Lit.int .i64 a1).wf = true) :
    Calls Try.prog 9 #[.int .u8 a0, .int .i64 a1] w fun e w' => e = .returned (.bool true) ∧ Below w.heap.size w w' := by
  have r0 := bounds_u8 w0
  obtain ⟨m, rfl⟩ : ∃ m : Nat, a0 = (m : Int) := ⟨a0.toNat, by omega⟩
  have hm : m ≤ 255 := by omega
  clear r0
  obtain ⟨k, hk⟩ : ∃ k, k = m % 21 := ⟨_, rfl⟩
  have hwm : IntKind.i64.wrap (m : Int) = (m : Int) := IntWalk.i64_in _ (by omega)
  have hrem : ((m : Int)).tmod 21 = (k : Int) := by rw [hk]; rfl
  have hrem2 : (m : Int) % 21 = (k : Int) := by omega
  have hk2 : k ≤ 20 := by omega
  obtain ⟨N, hN⟩ : ∃ N, N = 4096 - k := ⟨_, rfl⟩
  have hsub : IntKind.i64.wrap ((4096 : Int) - (k : Int)) = (N : Int) := by rw [IntWalk.i64_in _ (by omega)]; omega
  have hsub2 : (4096 : Int) - (k : Int) = (N : Int) := by omega
  have hN2 : N ≤ 4096 := by omega
  have hNk : N + k = 4096 := by omega
  have HNK := Lib.hid hNk
  clear hN hNk hk
  have hmake := fun w => @run_make_row' Try.prog 22 3 (.int .i64 0) 8 Try.underlying22 Try.info3 rfl .i64 .i64 N (by omega) (by omega) w
  go_enter Try.func9, Try.ntmps9
  go_wp2_with (first | (go_at_call 11; refine (awake_any _).mono ?_; rintro e w1 ⟨rfl, hb⟩; have HB := Lib.hid hb; clear hb) | (go_at_call 13; go_loud (refine (newN w _ _ N N _ _ (List.replicate N 0) (List.replicate N 0) _ (HB.out.alloc HB.out.size _) (made_slice w1 N) (made_slice w1 N) List.length_replicate List.length_replicate hN2 hN2).mono ?_; rintro e w2 ⟨p, rfl, ht, -⟩; have HT := Lib.hid ht; clear ht)))
  clear hmake hsub hsub2
  go_loopw [26] (fun i wr => ∃ j : Nat, j ≤ k ∧ i = .int .i64 j ∧ Hid (TapeB w wr p (List.replicate j a1 ++ List.replicate N 0) (List.replicate N 0 ++ List.replicate j a1))) (fun i _ => k - (intOf i).toNat)
  case atStart => exact ⟨0, by omega, rfl, Lib.hid (by simpa using HT.out)⟩
  case round =>
    clear HT
    obtain ⟨j, hj, rfl, HR⟩ := hrel
    by_cases hjk : j < k
    · have hdl : (j : Int) < (k : Int) := by omega
      have HL1 : Hid ((List.replicate j a1 ++ List.replicate N (0 : Int)).length < 4096) := Lib.hid (by rw [List.length_append, List.length_replicate, List.length_replicate]; have := HNK.out; omega)
      have HL2 : Hid ((List.replicate N (0 : Int) ++ List.replicate j a1).length < 4096) := Lib.hid (by rw [List.length_append, List.length_replicate, List.length_replicate]; have := HNK.out; omega)
      go_wp2_with (first | (go_at_call 23; refine (unreadB w _ p a1 _ _ _ _ 0 0 HR.out (step_u _ _ _ HL1.out)).mono ?_; rintro e w3 ⟨rfl, ht⟩; replace HR := Lib.hid ht; clear ht) | (go_at_call 21; refine (writeB w _ p a1 _ _ _ _ 0 0 HR.out (step_w _ _ _ HL2.out)).mono ?_; rintro e w4 ⟨rfl, ht⟩; replace HR := Lib.hid ht; clear ht))
      go_roundw
      case rel => exact ⟨j + 1, by omega, by go_num, Lib.hid (by rw [List.replicate_succ, List.cons_append, ← List.replicate_succ, List.replicate_succ', ← List.append_assoc]; exact HR.out)⟩
      case measure => simp [intOf]; omega
    · obtain rfl : j = k := by omega
      have HL1 : Hid ((List.replicate j a1 ++ List.replicate N (0 : Int)).length = 4096) := Lib.hid (by rw [List.length_append, List.length_replicate, List.length_replicate]; have := HNK.out; omega)
      have HL2 : Hid ((List.replicate N (0 : Int) ++ List.replicate j a1).length = 4096) := Lib.hid (by rw [List.length_append, List.length_replicate, List.length_replicate]; have := HNK.out; omega)
      go_wp2_with (first
        | (go_at_call 23; refine (unreadB w _ p a1 _ _ _ _ 0 5 HR.out (step_ufull _ _ _ (Nat.le_of_eq HL1.out.symm))).mono ?_; rintro e w3 ⟨rfl, ht⟩; replace HR := Lib.hid ht; clear ht) | (go_at_call 21; refine (writeB w _ p a1 _ _ _ _ 0 5 HR.out (step_wfull _ _ _ (Nat.le_of_eq HL2.out.symm))).mono ?_; rintro e w4 ⟨rfl, ht⟩; replace HR := Lib.hid ht; clear ht)
        | (go_at_call 14; refine (inN w _ p 4096 _ _ HR.out HL1.out (by omega)).mono ?_; rintro e w5 ⟨a5, c5, rfl, -, ht, -⟩; replace HR := Lib.hid ht; clear ht)
        | (go_at_call 19; refine (outN w _ p 4096 _ _ HR.out HL2.out (by omega)).mono ?_; rintro e w6 ⟨a6, c6, rfl, -, ht, -⟩; replace HR := Lib.hid ht; clear ht))
      go_ret
      exact ⟨rfl, HR.out.bel⟩


set_option maxRecDepth 100000 in
theorem lifted (os : Os) (started : os.Started) (H : Type) (enc : TypeId × Value → H) :
    ReturnsInHanded {} Try.checked os 9 .any (Rows.tapeFullSpec.pre6 enc Try.prog Try.f9 Rows.tapeFullRow.domain false) (Rows.tapeFullSpec.post enc Try.prog Try.f9 false true false false) := by
  refine returnsInHanded_of_change (C := Try.checked) own started (by kernel_rfl) Try.func9
    (ChangeSpec.witness6 (enc := enc) (C := Try.checked) false ⟨#[], #[.int .u8 0, .int .i64 0], []⟩ 8 (by kernel_rfl) (by kernel_rfl) (by kernel_rfl) (by kernel_rfl)) ?_
  intro W base args ds gs before hval0 hW hcnd _
  have hval : ∀ (j : Nat) t v, Try.f9.params[j]? = some t → args[j]? = some v → Value.okWide Try.prog W .any base t v := hval0
  have hW' := hW
  obtain ⟨p, q, hA0, hV, rfl, hfz, hnd⟩ := hW
  have hA : DataW.TrodAll enc Try.prog W 0 (fun _ => true) true Try.f9.params.toList args.toList ds p := hA0
  rw [Try.params9] at hA hval
  obtain ⟨v0, vs0, d0, ds0, p0, q0, hargs, rfl, rfl, h0, r0⟩ := trodAll_cons hA
  obtain ⟨v1, vs1, d1, ds1, p1, q1, rfl, rfl, rfl, h1, r1⟩ := trodAll_cons r0
  obtain ⟨rfl, rfl, rfl⟩ := trodAll_nil r1
  obtain rfl : args = #[v0, v1] := by cases args; simp_all
  obtain ⟨rfl, rfl⟩ := trodVars_none hV
  obtain ⟨a0, rfl, rfl, rfl, w0⟩ := open_int Try.underlying5 (hval 0 5 v0 rfl rfl) h0
  obtain ⟨a1, rfl, rfl, rfl, w1⟩ := open_int Try.underlying3 (hval 1 3 v1 rfl rfl) h1
  clear hA0 hval0
  refine (walk a0 a1 W w0 w1).mono fun e W' ⟨he, bel⟩ => ?_
  subst he
  exact ⟨_, rfl, _, _, _, [], _, [], hW', trodAll_mk1 (shut_bool Try.underlying4 _), (trodAll_cons_mk (shut_int Try.underlying5 w0) (trodAll_cons_mk (shut_int Try.underlying3 w1) trodAll_mk0)), rfl, bel.frame _, fun h => by cases h⟩

theorem over : Rows.tapeFullRow.holds Try.pinned (OpenSpec.ofChange Rows.tapeFullSpec) :=
  OpenClaim.holds_of_wide 9 Try.f9 rfl rfl rfl rfl rfl rfl rfl ⟨rfl, rfl, rfl, rfl, rfl⟩ rfl rfl rfl rfl rfl (by kernel_rfl) Try.func9 (by kernel_rfl)
    (of_decide_eq_true (by kernel_rfl)) (by unfold Func.isWrapper; first | (rw [if_pos (by decide +kernel)]; kernel_rfl) | (rw [if_neg (by decide +kernel)]; exact ⟨rfl, rfl⟩))
    (fun os started H enc _ => lifted os started H enc)

theorem proved : Rows.TapeFullSaid := over
#print axioms proved
end Go.Proofs.Ythbeillgpnffmaa.tapeFull
