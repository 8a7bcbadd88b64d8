/- TapeCopies answers true for all sequences, and changes nothing that existed; no conditions. -/
import Derived.Test.YthbeillgpnffmaaRows
import Derived.WalkKit
import Derived.ProofKit
import Derived.OpenShut
import Derived.ShutString
import Derived.ChangeOld
import Derived.Below
import Derived.Test.YthbeillgpnffmaaEqs
import Derived.Lib.Hide
import Derived.WalkSmall
import Derived.WalkSpells
import Derived.WalkLawsBesides
import Derived.IntWalk
import Derived.Outline
import Derived.Deep.QuietTactic
import Derived.BigQuiet
import Derived.Deep.RegionWith
namespace Go.Proofs.Ythbeillgpnffmaa.tapeCopies
open Go.ChangeShapes Go.WideShapes Go.ChangeAt Go.RowKit
open Go.ChangeMaps (open_string shut_string)
set_option linter.unusedSimpArgs false
set_option linter.unusedVariables false

theorem own : ownKnob Try.prog.godebug = none := by kernel_rfl
theorem laidOut : laidOutB Try.prog = true := by kernel_rfl

set_option maxRecDepth 100000 in
set_option maxHeartbeats 1000000 in
theorem walk (a0 : Option Addr) (n0 cap0 : Nat) (l0 : List Int) (a1 : Option Addr) (n1 cap1 : Nat) (l1 : List Int) (w : World) (w0 : l0.length = n0) (x0 : SliceI w a0 l0) (y0 : n0 ≤ cap0) (z0 : n0 < 2 ^ 47) (w1 : l1.length = n1) (x1 : SliceI w a1 l1) (y1 : n1 ≤ cap1) (z1 : n1 < 2 ^ 47) :
    Calls Try.prog 8 #[.slice a0 n0 cap0, .slice a1 n1 cap1] w fun e w' => e = .returned (.bool true) ∧ Below w.heap.size w w' := by
  subst w0 w1
  have HX0 := Lib.hid x0
  have HX1 := Lib.hid x1
  clear x0 x1
  have hsum : IntKind.i64.wrap ((l0.length : Int) + (l1.length : Int)) = (l0.length : Int) + (l1.length : Int) := IntWalk.i64_in _ (by omega)
  by_cases hbig : 2000 < l0.length + l1.length
  · have hd : decide ((2000 : Int) < (l0.length : Int) + (l1.length : Int)) = true := by simp; omega
    go_enter Try.func8, Try.ntmps8
    go_wp2_with (go_at_call 11; refine (awake_any _).mono ?_; rintro e w1 ⟨rfl, hb⟩; have HB := Lib.hid hb; clear hb)
    go_ret
    exact ⟨rfl, HB.out⟩
  have hd : decide ((2000 : Int) < (l0.length : Int) + (l1.length : Int)) = false := by simp; omega
  go_enter Try.func8, Try.ntmps8
  go_wp2_with (first | (go_at_call 11; refine (awake_any _).mono ?_; rintro e w1 ⟨rfl, hb⟩; have HB := Lib.hid hb; clear hb) | (go_at_call 13; refine (newB w _ _ _ _ l0 l1 _ HB.out (HX0.out.below HB.out) (HX1.out.below HB.out) (by omega) (by omega)).mono ?_; rintro e w2 ⟨p, rfl, ht, -⟩; have HT := Lib.hid ht; clear ht))
  clear hd hsum
  go_loopw [29] (fun i wr => ∃ k : Nat, k ≤ l0.length ∧ i = .int .i64 k ∧ Hid (TapeB w wr p (l0.drop k) (l1 ++ l0.take k))) (fun i _ => l0.length - (intOf i).toNat)
  case atStart => exact ⟨0, by omega, rfl, Lib.hid (by simpa using HT.out)⟩
  case round =>
    clear HT
    obtain ⟨k, hk, rfl, HR⟩ := hrel
    by_cases hkl : k < l0.length
    · have hdl : (k : Int) < (l0.length : Int) := by omega
      obtain ⟨z, hz⟩ : ∃ z, z = l0[k] := ⟨_, rfl⟩
      have e1 : l0.drop k = z :: l0.drop (k + 1) := by rw [hz]; exact List.drop_eq_getElem_cons hkl
      have e2 : l0.take (k + 1) = l0.take k ++ [z] := by rw [hz]; exact (List.take_append_getElem hkl).symm
      have hol : (l1 ++ l0.take k).length < 4096 := by rw [List.length_append, List.length_take]; omega
      rw [e1] at HR
      have HE := Lib.hid e2
      have HOL := Lib.hid hol
      clear e1 e2 hz hol
      go_wp2_with (first | (go_at_call 20; refine (readB w _ p (z :: l0.drop (k + 1)) (l1 ++ l0.take k) _ _ z 0 HR.out (step_r _ _ _ _)).mono ?_; rintro e w3 ⟨rfl, ht⟩; replace HR := Lib.hid ht; clear ht) | (go_at_call 21; refine (writeB w _ p z (l0.drop (k + 1)) (l1 ++ l0.take k) _ _ 0 0 HR.out (step_w _ _ _ HOL.out)).mono ?_; rintro e w4 ⟨rfl, ht⟩; replace HR := Lib.hid ht; clear ht))
      go_roundw
      case rel => exact ⟨k + 1, by omega, by go_num, Lib.hid (by rw [HE.out, ← List.append_assoc]; exact HR.out)⟩
      case measure => simp [intOf]; omega
    · obtain rfl : k = l0.length := by omega
      have HW : Hid (TapeB w wr p [] (l1 ++ l0)) := Lib.hid (by have := HR.out; rwa [List.drop_length, List.take_length] at this)
      have HY0 := Lib.hid (HX0.out.below HW.out.bel)
      have HY1 := Lib.hid (HX1.out.below HW.out.bel)
      have HQ : Hid (Below wr.heap.size wr wr) := Lib.hid (Below.refl _ _)
      clear HR
      have hn1 : l1.length ≤ 2000 := by omega
      have hn0 : l0.length ≤ 2000 := by omega
      go_wp2_with (first
        | (at_builtin; go_loud (refine wpList_app rfl _ _ rfl wr.heap.size _ [] rfl ?_ _ _ l1 rfl ?_ ?_ ?_ ?_ ?_; exact (row_here [] (by first | omega | (simp; done) | (simp; omega)) (heap_new' _ _ (by simp)) rfl (by first | omega | (simp; done) | (simp; omega))); exact HY1.out.alloc _; exact (by first | omega | (simp; done) | (simp; omega)); exact (by first | omega | (simp; done) | (simp; omega)); exact (by first | omega | (simp; done) | (simp; omega)); intro v' w5 hown' hgrow; have HB5 := Lib.hid (grown_below (w0 := wr) (HQ.out.alloc (by first | omega | (simp; done) | (simp; omega)) _) hgrow (by first | omega | (simp; done) | (simp; omega)) (fun k hk => by cases hk; first | exact Nat.le_refl _ | (simp; done) | (simp; omega))); rw [List.length_nil, Nat.zero_add, List.nil_append] at hown'; have HO5 := Lib.hid hown'; clear hown' hgrow))
        | (at_builtin; go_loud (refine wpList_app rfl _ _ rfl wr.heap.size _ l1 rfl HO5.out _ _ l0 rfl (HY0.out.below HB5.out) (by first | omega | (simp; done) | (simp; omega)) (by first | omega | (simp; done) | (simp; omega)) HB5.out.size ?_; intro v'' w6 hown' hgrow; have HB6 := Lib.hid (grown_below (w0 := wr) HB5.out hgrow HB5.out.size (fun k hk => (HO5.out.lt k hk).1)); obtain ⟨a6, c6, hv6, hs6, _⟩ := (ownI_of_row (zs := l1 ++ l0) (by rw [List.length_append]; exact hown')).1.val; subst hv6; have HS6 := Lib.hid hs6; clear hown' hgrow hs6))
        | (go_at_call_of 15 a6; refine (sameN w _ p 0 (l1.length + l0.length) [] (l1 ++ l0) _ _ _ _ (HW.out.below HB6.out) (fun e => absurd rfl e) HS6.out rfl List.length_append (by omega) (by omega)).mono ?_; rintro e w7 ⟨rfl, ht, -⟩; have HV := Lib.hid ht; clear ht))
      go_loopw [55] (fun i wr => ∃ k : Nat, k ≤ l0.length ∧ i = .int .i64 k ∧ Hid (TapeB w wr p (l0.drop (l0.length - k)) (l1 ++ l0.take (l0.length - k)))) (fun i _ => l0.length - (intOf i).toNat)
      case atStart => exact ⟨0, by omega, rfl, Lib.hid (by rw [Nat.sub_zero, List.drop_length, List.take_length]; exact HV.out)⟩
      case round =>
        clear HV HB6 HS6 HB5 HO5 HQ HY0 HY1 HW
        obtain ⟨k, hk, rfl, HR⟩ := hrel
        by_cases hkl : k < l0.length
        · have hdl : (k : Int) < (l0.length : Int) := by omega
          obtain ⟨m, hm⟩ : ∃ m, l0.length - k = m + 1 := ⟨l0.length - k - 1, by omega⟩
          have hml : m < l0.length := by omega
          obtain ⟨z, hz⟩ : ∃ z, z = l0[m] := ⟨_, rfl⟩
          have e1 : l0.drop m = z :: l0.drop (m + 1) := by rw [hz]; exact List.drop_eq_getElem_cons hml
          have e2 : l0.take (m + 1) = l0.take m ++ [z] := by rw [hz]; exact (List.take_append_getElem hml).symm
          have hol : (l1 ++ l0.take m).length ≤ 60000 ∧ (l0.drop (m + 1)).length < 4096 := by rw [List.length_append, List.length_take, List.length_drop]; omega
          rw [hm, e2, ← List.append_assoc] at HR
          have HE := Lib.hid e1
          have HOL := Lib.hid hol
          have hm2 : l0.length - (k + 1) = m := by omega
          have HOM := Lib.hid hm2
          clear e1 e2 hz hol hm hm2
          go_wp2_with (first | (go_at_call 22; refine (unwriteB w _ p _ (l1 ++ l0.take m ++ [z]) _ _ z 0 HR.out (by have := HOL.out.1; rw [List.length_append, List.length_singleton]; omega) (step_uw _ _ _ _)).mono ?_; rintro e w8 ⟨rfl, ht⟩; replace HR := Lib.hid ht; clear ht) | (go_at_call 23; refine (unreadB w _ p z (l0.drop (m + 1)) (l1 ++ l0.take m) _ _ 0 0 HR.out (step_u _ _ _ HOL.out.2)).mono ?_; rintro e w9 ⟨rfl, ht⟩; replace HR := Lib.hid ht; clear ht))
          go_roundw
          case rel => exact ⟨k + 1, by omega, by go_num, Lib.hid (by rw [HOM.out, HE.out]; exact HR.out)⟩
          case measure => simp [intOf]; omega
        · obtain rfl : k = l0.length := by omega
          have HZ : Hid (TapeB w wr p l0 l1) := Lib.hid (by have := HR.out; rwa [Nat.sub_self, List.drop_zero, List.take_zero, List.append_nil] at this)
          clear HR
          go_wp2_with (go_at_call 15; refine (sameB w _ p l0 l1 _ _ _ _ HZ.out (HX0.out.below HZ.out.bel) (HX1.out.below HZ.out.bel) (by omega) (by omega)).mono ?_; rintro e w7 ⟨rfl, ht, -⟩; have HV := Lib.hid ht; clear ht)
          go_ret
          exact ⟨rfl, HV.out.bel⟩

set_option maxRecDepth 100000 in
theorem lifted (os : Os) (started : os.Started) (H : Type) (enc : TypeId × Value → H) :
    ReturnsInHanded {} Try.checked os 8 .any (Rows.tapeCopiesSpec.pre6 enc Try.prog Try.f8 Rows.tapeCopiesRow.domain false) (Rows.tapeCopiesSpec.post enc Try.prog Try.f8 false true false false) := by
  refine returnsInHanded_of_change_sized (C := Try.checked) own started (by kernel_rfl) Try.func8
    (ChangeSpec.witness6 (enc := enc) (C := Try.checked) false ⟨#[], #[.slice none 0 0, .slice none 0 0], []⟩ 8 (by kernel_rfl) (by kernel_rfl) (by kernel_rfl) (by kernel_rfl)) ?_
  intro W base args ds gs before hval0 hW hcnd hsz0 _
  have hval : ∀ (j : Nat) t v, Try.f8.params[j]? = some t → args[j]? = some v → Value.okWide Try.prog W .any base t v := hval0
  have hW' := hW
  obtain ⟨p, q, hA0, hV, rfl, hfz, hnd⟩ := hW
  have hA : DataW.TrodAll enc Try.prog W 0 (fun _ => true) true Try.f8.params.toList args.toList ds p := hA0
  rw [Try.params8] at hA hval
  have hsz : (DataW.weightsEach Try.prog (Try.f8.params.toList ++ Rows.tapeCopiesSpec.plain.varTypes Try.prog) (ds ++ gs)).all (· ≤ reachBytes) = true := hsz0
  rw [Try.params8] at hsz
  obtain ⟨v0, vs0, d0, ds0, p0, q0, hargs, rfl, rfl, h0, r0⟩ := trodAll_cons hA
  obtain ⟨v1, vs1, d1, ds1, p1, q1, rfl, rfl, rfl, h1, r1⟩ := trodAll_cons r0
  obtain ⟨rfl, rfl, rfl⟩ := trodAll_nil r1
  obtain rfl : args = #[v0, v1] := by cases args; simp_all
  obtain ⟨rfl, rfl⟩ := trodVars_none hV
  have k0 := h0
  have lt0 : ∀ x ∈ p0, x.block < W.heap.size := by obtain ⟨m, hm⟩ := k0; exact DataW.trod_lt m _ _ _ hm
  obtain ⟨a0, n0, cap0, l0, rfl, w0, x0, y0, z0⟩ := open_intsZ (hval 0 22 v0 rfl rfl) h0 (fun el sp e => sized_slice hsz (j := 0) (t := 22) (e := 3) rfl (by rw [e]; rfl) Try.underlying22)
  have k1 := h1
  have lt1 : ∀ x ∈ p1, x.block < W.heap.size := by obtain ⟨m, hm⟩ := k1; exact DataW.trod_lt m _ _ _ hm
  obtain ⟨a1, n1, cap1, l1, rfl, w1, x1, y1, z1⟩ := open_intsZ (hval 1 22 v1 rfl rfl) h1 (fun el sp e => sized_slice hsz (j := 1) (t := 22) (e := 3) rfl (by rw [e]; rfl) Try.underlying22)
  clear hA0 hval0
  refine (walk a0 n0 cap0 l0 a1 n1 cap1 l1 W w0 x0 y0 z0 w1 x1 y1 z1).mono fun e W' ⟨he, bel⟩ => ?_
  subst he
  exact ⟨_, rfl, _, _, _, [], _, [], hW', trodAll_mk1 (shut_bool Try.underlying4 _), (trodAll_cons_mk (Below.trod laidOut (by kernel_rfl) (of_decide_eq_true (by kernel_rfl)) k0 bel lt0) (trodAll_cons_mk (Below.trod laidOut (by kernel_rfl) (of_decide_eq_true (by kernel_rfl)) k1 bel lt1) trodAll_mk0)), rfl, bel.frame _, fun h => by cases h⟩

theorem over : Rows.tapeCopiesRow.holds Try.pinned (OpenSpec.ofChange Rows.tapeCopiesSpec) :=
  OpenClaim.holds_of_wide 8 Try.f8 rfl rfl rfl rfl rfl rfl rfl ⟨rfl, rfl, rfl, rfl, rfl⟩ rfl rfl rfl rfl rfl (by kernel_rfl) Try.func8 (by kernel_rfl)
    (of_decide_eq_true (by kernel_rfl)) (by unfold Func.isWrapper; first | (rw [if_pos (by decide +kernel)]; kernel_rfl) | (rw [if_neg (by decide +kernel)]; exact ⟨rfl, rfl⟩))
    (fun os started H enc _ => lifted os started H enc)

theorem proved : Rows.TapeCopiesSaid := over
#print axioms proved
end Go.Proofs.Ythbeillgpnffmaa.tapeCopies
