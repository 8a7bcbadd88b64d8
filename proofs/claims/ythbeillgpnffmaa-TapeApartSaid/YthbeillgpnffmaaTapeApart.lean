/- TapeApart answers true for all sequences and all operations, and changes nothing that existed; no conditions. -/
import Derived.Test.YthbeillgpnffmaaRows
import Derived.WalkKit
import Derived.ProofKit
import Derived.OpenShut
import Derived.ShutString
import Derived.ChangeOld
import Derived.Below
import Derived.Test.YthbeillgpnffmaaUndo
import Derived.Lib.Hide
import Derived.WalkSmall
import Derived.WalkSpells
import Derived.WalkLawsBesides
import Derived.IntWalk
import Derived.Outline
import Derived.Deep.QuietTactic
import Derived.BigQuiet
import Derived.Deep.RegionWith
namespace Go.Proofs.Ythbeillgpnffmaa.tapeApart
open Go.ChangeShapes Go.WideShapes Go.ChangeAt Go.RowKit
open Go.ChangeMaps (open_string shut_string)
set_option linter.unusedSimpArgs false
set_option linter.unusedVariables false

theorem own : ownKnob Try.prog.godebug = none := by kernel_rfl
theorem laidOut : laidOutB Try.prog = true := by kernel_rfl

set_option maxRecDepth 100000 in
set_option maxHeartbeats 1000000 in
theorem walk (a0 : Option Addr) (n0 cap0 : Nat) (l0 : List Int) (a1 : Option Addr) (n1 cap1 : Nat) (l1 : List Int) (a2 : Option Addr) (n2 cap2 : Nat) (l2 : List (Int × Int)) (w : World) (w0 : l0.length = n0) (x0 : SliceI w a0 l0) (y0 : n0 ≤ cap0) (w1 : l1.length = n1) (x1 : SliceI w a1 l1) (y1 : n1 ≤ cap1) (w2 : l2.length = n2) (x2 : SliceO w a2 l2) :
    Calls Try.prog 7 #[.slice a0 n0 cap0, .slice a1 n1 cap1, .slice a2 n2 cap2] w fun e w' => e = .returned (.bool true) ∧ Below w.heap.size w w' := by
  subst w0 w1 w2
  have HX0 := Lib.hid x0
  have HX1 := Lib.hid x1
  have HX2 := Lib.hid x2
  clear x0 x1 x2
  by_cases hg : 5000 < l0.length ∨ 5000 < l1.length ∨ 60 < l2.length
  · have hgr : Hid (greatB l0.length l1.length l2.length = true) := Lib.hid (by unfold greatB; rcases hg with h | h | h <;> simp [h])
    go_enter Try.func7, Try.ntmps7
    go_wp2_with (first | (go_at_call 11; refine (awake_any _).mono ?_; rintro e w1 ⟨rfl, hb⟩; have HB := Lib.hid hb; clear hb) | (go_at_call 12; refine (great_any _ _ _ _ _ _ _ _ _ _).mono ?_; rintro e w1 ⟨rfl, rfl⟩; rw [hgr.out]))
    go_ret
    exact ⟨rfl, HB.out⟩
  have hgr : Hid (greatB l0.length l1.length l2.length = false) := Lib.hid (by unfold greatB; simp; omega)
  have hb0 : l0.length ≤ 5000 := by omega
  have hb1 : l1.length ≤ 5000 := by omega
  have hb2 : l2.length ≤ 60 := by omega
  clear hg
  by_cases hf : 4096 < l0.length ∨ 4096 < l1.length
  · have hn13 : (5 : Int) ≠ 0 := by decide
    go_enter Try.func7, Try.ntmps7
    go_wp2_with (first
      | (go_at_call 11; refine (awake_any _).mono ?_; rintro e w1 ⟨rfl, hb⟩; have HB := Lib.hid hb; clear hb)
      | (go_at_call 12; refine (great_any _ _ _ _ _ _ _ _ _ _).mono ?_; rintro e w1 ⟨rfl, rfl⟩; rw [hgr.out])
      | (go_at_call_of 13 a0; go_at_call_of 13 a1; refine (new_full _ _ _ _ _ _ _ hf).mono ?_; rintro e w1 ⟨rfl, rfl⟩)
      | (go_at_call_of 13 a0; refine (new_any a0 none _ _ _ _ l0 [] _ (HX0.out.below HB.out) (fun e => absurd rfl e) rfl rfl).mono ?_; rintro e w2 ⟨v1, k1, rfl, hb⟩; have HB2 := Lib.hid (below_on HB.out hb); clear hb)
      | (go_at_call_of 13 a1; refine (new_any none a1 _ _ _ _ [] l1 _ (fun e => absurd rfl e) (HX1.out.below HB2.out) rfl rfl).mono ?_; rintro e w3 ⟨v2, k2, rfl, hb⟩; have HB3 := Lib.hid (below_on HB2.out hb); clear hb))
    go_ret
    exact ⟨rfl, HB3.out⟩
  have hf0 : l0.length ≤ 4096 := by omega
  have hf1 : l1.length ≤ 4096 := by omega
  clear hf
  go_enter Try.func7, Try.ntmps7
  go_wp2_with (first
    | (go_at_call 11; refine (awake_any _).mono ?_; rintro e w1 ⟨rfl, hb⟩; have HB := Lib.hid hb; clear hb)
    | (go_at_call 12; refine (great_any _ _ _ _ _ _ _ _ _ _).mono ?_; rintro e w1 ⟨rfl, rfl⟩; rw [hgr.out])
    | (go_at_call_of 13 a0; go_at_call_of 13 a1; refine (new_okF _ _ _ _ _ _ l0 l1 _ (HX0.out.below HB.out) (HX1.out.below HB.out) rfl rfl hf0 hf1).mono ?_; rintro e w2 ⟨p1, F1, rfl, ht, hF, hb⟩; have HT1 := Lib.hid ht; have HF1 := Lib.hid hF; have HB2 := Lib.hid hb; have HW2 := Lib.hid (below_on HB.out hb); clear ht hF hb)
    | (go_at_call_of 13 a0; refine (new_okF _ none _ _ _ _ l0 [] _ (HX0.out.below HW2.out) (fun e => absurd rfl e) rfl rfl hf0 (by decide)).mono ?_; rintro e w3 ⟨p2, F2, rfl, ht, hF, hb⟩; have HT2 := Lib.hid ht; have HF2 := Lib.hid hF; have HB3 := Lib.hid hb; have HW3 := Lib.hid (below_on HW2.out hb); clear ht hF hb)
    | (go_at_call_of 13 a1; refine (new_okF none _ _ _ _ _ [] l1 _ (fun e => absurd rfl e) (HX1.out.below HW3.out) rfl rfl (by decide) hf1).mono ?_; rintro e w4 ⟨p3, F3, rfl, ht, hF, hb⟩; have HT3 := Lib.hid ht; have HF3 := Lib.hid hF; have HB4 := Lib.hid hb; have HW4 := Lib.hid (below_on HW3.out hb); clear ht hF hb))
  have HALL : Hid (T3 w w4 p1 p2 p3 l0 l1 l0 [] [] l1) := Lib.hid ⟨F1, F2, F3, (HT1.out.below HB3.out).below HB4.out, HT2.out.below HB4.out, HT3.out,
    fun k h1 h2 => by have := HT1.out.lt k h1; have := HF2.out k h2; omega, fun k h1 h2 => by have := HT1.out.lt k h1; have := HF3.out k h2; have := HB3.out.size; omega, fun k h1 h2 => by have := HT2.out.lt k h1; have := HF3.out k h2; omega,
    fun k hk => Nat.le_trans HB.out.size (HF1.out k hk), fun k hk => Nat.le_trans HW2.out.size (HF2.out k hk), fun k hk => Nat.le_trans HW3.out.size (HF3.out k hk), HW4.out⟩
  clear HT1 HT2 HT3 HF1 HF2 HF3 HB2 HB3 HB4 HW2 HW3 HW4
  go_loopw [54] (fun i wr => ∃ k : Nat, k ≤ l2.length ∧ i = .int .i64 k ∧ ∃ ins outs, Hid (T3 w wr p1 p2 p3 ins outs ins [] [] outs) ∧ ins.length ≤ 4096 ∧ outs.length ≤ 4096) (fun i _ => l2.length - (intOf i).toNat)
  case atStart => exact ⟨0, by omega, rfl, l0, l1, HALL, hf0, hf1⟩
  case round =>
    clear HALL
    obtain ⟨k, hk, rfl, ins, outs, HR, hli, hlo⟩ := hrel
    by_cases hkl : k < l2.length
    · have hdl : (k : Int) < (l2.length : Int) := by omega
      obtain ⟨b, o, ⟨x1, x2⟩, rfl, hx, hbl, hc0, hc1⟩ := (HX2.out.below HR.out.bel).at hkl
      clear hx hbl
      obtain ⟨i', o', r, er, hst⟩ : ∃ i' o' r er, stepT x1 x2 ins outs = (i', o', r, er) := ⟨_, _, _, _, rfl⟩
      obtain ⟨hli', hlo'⟩ := step_lens x1 x2 ins outs i' o' r er hst hli hlo
      have HST := Lib.hid hst
      have HA : Hid (Below wr.heap.size wr (wr.alloc (.cells #[.int .i64 x1, .int .i64 x2] 37))) := Lib.hid ((Below.refl _ _).alloc (Nat.le_refl _) _)
      by_cases hk12 : x1 = 1 ∨ x1 = 2
      · obtain ⟨rfl, hst2⟩ := step_ins hk12 hst
        have HST2 := Lib.hid hst2
        clear hst hst2
        rcases hk12 with rfl | rfl
        · go_wp2_with (first
            | (go_at_call_of 16 p1; refine (doT3 w wr _ (.cells #[.int .i64 1, .int .i64 x2] 37) p1 p2 p3 1 x2 ins o' ins [] [] o' HR.out HA.out (heap_alloc_new wr _) hlo).mono ?_; rw [HST.out]; rintro e w3 ⟨rfl, ht, hk3⟩; have HR2 := Lib.hid ht; have m0 : w3.cell? ⟨wr.heap.size, 0, none⟩ = some (.int .i64 1) := (by rw [cell_of_row _ _ _ _ _ (0, 0) hk3]; rfl); have m1 : w3.cell? ⟨wr.heap.size, 1, none⟩ = some (.int .i64 x2) := (by rw [cell_of_row _ _ _ _ _ (0, 0) hk3]; rfl); clear ht hk3)
            | (go_at_call_of 16 p2; refine (doT3' w _ p2 p3 p1 1 x2 ins [] [] o' i' o' HR2.out.rot (by decide)).mono ?_; rw [HST2.out]; rintro e w4 ⟨rfl, ht⟩; have HR3 := Lib.hid ht.rot.rot; clear ht))
          go_roundw
          case rel => exact ⟨k + 1, by omega, by go_num, i', o', HR3, hli', hlo⟩
          case measure => simp [intOf]; omega
        · go_wp2_with (first
            | (go_at_call_of 16 p1; refine (doT3 w wr _ (.cells #[.int .i64 2, .int .i64 x2] 37) p1 p2 p3 2 x2 ins o' ins [] [] o' HR.out HA.out (heap_alloc_new wr _) hlo).mono ?_; rw [HST.out]; rintro e w3 ⟨rfl, ht, hk3⟩; have HR2 := Lib.hid ht; have m0 : w3.cell? ⟨wr.heap.size, 0, none⟩ = some (.int .i64 2) := (by rw [cell_of_row _ _ _ _ _ (0, 0) hk3]; rfl); have m1 : w3.cell? ⟨wr.heap.size, 1, none⟩ = some (.int .i64 x2) := (by rw [cell_of_row _ _ _ _ _ (0, 0) hk3]; rfl); clear ht hk3)
            | (go_at_call_of 16 p2; refine (doT3' w _ p2 p3 p1 2 x2 ins [] [] o' i' o' HR2.out.rot (by decide)).mono ?_; rw [HST2.out]; rintro e w4 ⟨rfl, ht⟩; have HR3 := Lib.hid ht.rot.rot; clear ht))
          go_roundw
          case rel => exact ⟨k + 1, by omega, by go_num, i', o', HR3, hli', hlo⟩
          case measure => simp [intOf]; omega
      · have hk1 : ¬ x1 = 1 := fun e => hk12 (.inl e)
        have hk2 : ¬ x1 = 2 := fun e => hk12 (.inr e)
        obtain ⟨rfl, hst2⟩ := step_outs hk1 hk2 hst
        have HST2 := Lib.hid hst2
        have n1 : (x1 == 1) = false := by simpa using hk1
        have n2 : (x1 == 2) = false := by simpa using hk2
        clear hst hst2 hk12
        go_wp2_with (first
          | (go_at_call_of 16 p1; refine (doT3 w wr _ (.cells #[.int .i64 x1, .int .i64 x2] 37) p1 p2 p3 x1 x2 i' outs i' [] [] outs HR.out HA.out (heap_alloc_new wr _) hlo).mono ?_; rw [HST.out]; rintro e w3 ⟨rfl, ht, hk3⟩; have HR2 := Lib.hid ht; have m0 : w3.cell? ⟨wr.heap.size, 0, none⟩ = some (.int .i64 x1) := (by rw [cell_of_row _ _ _ _ _ (0, 0) hk3]; rfl); have m1 : w3.cell? ⟨wr.heap.size, 1, none⟩ = some (.int .i64 x2) := (by rw [cell_of_row _ _ _ _ _ (0, 0) hk3]; rfl); clear ht hk3)
          | (go_at_call_of 16 p3; refine (doT3' w _ p3 p1 p2 x1 x2 [] outs i' o' i' [] HR2.out.rot.rot hlo).mono ?_; rw [HST2.out]; rintro e w4 ⟨rfl, ht⟩; have HR3 := Lib.hid ht.rot; clear ht))
        go_roundw
        case rel => exact ⟨k + 1, by omega, by go_num, i', o', HR3, hli', hlo'⟩
        case measure => simp [intOf]; omega
    · obtain rfl : k = l2.length := by omega
      go_wp2_with (first
        | (go_at_call_of 14 p2; refine (inN w _ p2 _ ins [] HR.out.rot.one rfl (by omega)).mono ?_; rintro e w3 ⟨a3, c3, rfl, hs, -, hb⟩; have HS3 := Lib.hid hs; have HR3 := Lib.hid (HR.out.below hb); clear hs hb)
        | (go_at_call_of 19 p3; refine (outN w _ p3 _ [] outs HR3.out.rot.rot.one rfl (by omega)).mono ?_; rintro e w4 ⟨a4, c4, rfl, hs, -, hb⟩; have HS4 := Lib.hid hs; have HR4 := Lib.hid (HR3.out.below hb); replace HS3 := Lib.hid (HS3.out.below hb); clear hs hb)
        | (go_at_call 15; refine (sameB w _ p1 ins outs _ _ _ _ HR4.out.one HS3.out HS4.out (by omega) (by omega)).mono ?_; rintro e w5 ⟨rfl, -, hb⟩; have HR5 := Lib.hid (HR4.out.below hb); clear hb)
        | (go_at_call_of 19 p2; refine (outN w _ p2 0 ins [] HR5.out.rot.one rfl (by omega)).mono ?_; rintro e w6 ⟨a6, c6, rfl, -, -, hb⟩; have HR6 := Lib.hid (HR5.out.below hb); clear hb)
        | (go_at_call_of 14 p3; refine (inN w _ p3 0 [] outs HR6.out.rot.rot.one rfl (by omega)).mono ?_; rintro e w7 ⟨a7, c7, rfl, -, -, hb⟩; have HR7 := Lib.hid (HR6.out.below hb); clear hb))
      go_ret
      exact ⟨rfl, HR7.out.bel⟩

set_option maxRecDepth 100000 in
theorem lifted (os : Os) (started : os.Started) (H : Type) (enc : TypeId × Value → H) :
    ReturnsInHanded {} Try.checked os 7 .any (Rows.tapeApartSpec.pre6 enc Try.prog Try.f7 Rows.tapeApartRow.domain false) (Rows.tapeApartSpec.post enc Try.prog Try.f7 false true false false) := by
  refine returnsInHanded_of_change (C := Try.checked) own started (by kernel_rfl) Try.func7
    (ChangeSpec.witness6 (enc := enc) (C := Try.checked) false ⟨#[], #[.slice none 0 0, .slice none 0 0, .slice none 0 0], []⟩ 8 (by kernel_rfl) (by kernel_rfl) (by kernel_rfl) (by kernel_rfl)) ?_
  intro W base args ds gs before hval0 hW hcnd _
  have hval : ∀ (j : Nat) t v, Try.f7.params[j]? = some t → args[j]? = some v → Value.okWide Try.prog W .any base t v := hval0
  have hW' := hW
  obtain ⟨p, q, hA0, hV, rfl, hfz, hnd⟩ := hW
  have hA : DataW.TrodAll enc Try.prog W 0 (fun _ => true) true Try.f7.params.toList args.toList ds p := hA0
  rw [Try.params7] at hA hval
  obtain ⟨v0, vs0, d0, ds0, p0, q0, hargs, rfl, rfl, h0, r0⟩ := trodAll_cons hA
  obtain ⟨v1, vs1, d1, ds1, p1, q1, rfl, rfl, rfl, h1, r1⟩ := trodAll_cons r0
  obtain ⟨v2, vs2, d2, ds2, p2, q2, rfl, rfl, rfl, h2, r2⟩ := trodAll_cons r1
  obtain ⟨rfl, rfl, rfl⟩ := trodAll_nil r2
  obtain rfl : args = #[v0, v1, v2] := by cases args; simp_all
  obtain ⟨rfl, rfl⟩ := trodVars_none hV
  have k0 := h0
  have lt0 : ∀ x ∈ p0, x.block < W.heap.size := by obtain ⟨m, hm⟩ := k0; exact DataW.trod_lt m _ _ _ hm
  obtain ⟨a0, n0, cap0, l0, rfl, w0, x0, y0⟩ := open_intsS (hval 0 22 v0 rfl rfl) h0
  have k1 := h1
  have lt1 : ∀ x ∈ p1, x.block < W.heap.size := by obtain ⟨m, hm⟩ := k1; exact DataW.trod_lt m _ _ _ hm
  obtain ⟨a1, n1, cap1, l1, rfl, w1, x1, y1⟩ := open_intsS (hval 1 22 v1 rfl rfl) h1
  have k2 := h2
  have lt2 : ∀ x ∈ p2, x.block < W.heap.size := by obtain ⟨m, hm⟩ := k2; exact DataW.trod_lt m _ _ _ hm
  obtain ⟨a2, n2, cap2, l2, rfl, w2, x2⟩ := open_ops (hval 2 32 v2 rfl rfl) h2
  clear hA0 hval0
  refine (walk a0 n0 cap0 l0 a1 n1 cap1 l1 a2 n2 cap2 l2 W w0 x0 y0 w1 x1 y1 w2 x2).mono fun e W' ⟨he, bel⟩ => ?_
  subst he
  exact ⟨_, rfl, _, _, _, [], _, [], hW', trodAll_mk1 (shut_bool Try.underlying4 _), (trodAll_cons_mk (Below.trod laidOut (by kernel_rfl) (of_decide_eq_true (by kernel_rfl)) k0 bel lt0) (trodAll_cons_mk (Below.trod laidOut (by kernel_rfl) (of_decide_eq_true (by kernel_rfl)) k1 bel lt1) (trodAll_cons_mk (Below.trod laidOut (by kernel_rfl) (of_decide_eq_true (by kernel_rfl)) k2 bel lt2) trodAll_mk0))), rfl, bel.frame _, fun h => by cases h⟩

theorem over : Rows.tapeApartRow.holds Try.pinned (OpenSpec.ofChange Rows.tapeApartSpec) :=
  OpenClaim.holds_of_wide 7 Try.f7 rfl rfl rfl rfl rfl rfl rfl ⟨rfl, rfl, rfl, rfl, rfl⟩ rfl rfl rfl rfl rfl (by kernel_rfl) Try.func7 (by kernel_rfl)
    (of_decide_eq_true (by kernel_rfl)) (by unfold Func.isWrapper; first | (rw [if_pos (by decide +kernel)]; kernel_rfl) | (rw [if_neg (by decide +kernel)]; exact ⟨rfl, rfl⟩))
    (fun os started H enc _ => lifted os started H enc)

theorem proved : Rows.TapeApartSaid := over
#print axioms proved
end Go.Proofs.Ythbeillgpnffmaa.tapeApart
