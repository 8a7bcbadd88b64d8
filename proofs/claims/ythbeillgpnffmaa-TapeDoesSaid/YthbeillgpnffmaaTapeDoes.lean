/- TapeDoes answers true for all sequences and all operations, and changes nothing that existed; no conditions. -/
import Derived.Test.YthbeillgpnffmaaRows
import Derived.WalkKit
import Derived.ProofKit
import Derived.OpenShut
import Derived.ShutString
import Derived.ChangeOld
import Derived.Below
import Derived.Test.YthbeillgpnffmaaTwo
import Derived.Lib.Hide
import Derived.WalkSmall
import Derived.WalkSpells
import Derived.WalkLawsBesides
import Derived.IntWalk
import Derived.Outline
import Derived.Deep.QuietTactic
import Derived.BigQuiet
import Derived.Deep.RegionWith
namespace Go.Proofs.Ythbeillgpnffmaa.tapeDoes
open Go.ChangeShapes Go.WideShapes Go.ChangeAt Go.RowKit
open Go.ChangeMaps (open_string shut_string)
set_option linter.unusedSimpArgs false
set_option linter.unusedVariables false

theorem own : ownKnob Try.prog.godebug = none := by kernel_rfl
theorem laidOut : laidOutB Try.prog = true := by kernel_rfl

set_option maxRecDepth 100000 in
set_option maxHeartbeats 1000000 in
theorem walk (a0 : Option Addr) (n0 cap0 : Nat) (l0 : List Int) (a1 : Option Addr) (n1 cap1 : Nat) (l1 : List Int) (a2 : Option Addr) (n2 cap2 : Nat) (l2 : List (Int × Int)) (w : World) (w0 : l0.length = n0) (x0 : SliceI w a0 l0) (y0 : n0 ≤ cap0) (w1 : l1.length = n1) (x1 : SliceI w a1 l1) (y1 : n1 ≤ cap1) (w2 : l2.length = n2) (x2 : SliceO w a2 l2) :
    Calls Try.prog 4 #[.slice a0 n0 cap0, .slice a1 n1 cap1, .slice a2 n2 cap2] w fun e w' => e = .returned (.bool true) ∧ Below w.heap.size w w' := by
  subst w0 w1 w2
  have HX0 := Lib.hid x0
  have HX1 := Lib.hid x1
  have HX2 := Lib.hid x2
  clear x0 x1 x2
  by_cases hg : 5000 < l0.length ∨ 5000 < l1.length ∨ 60 < l2.length
  · have hgr : Hid (greatB l0.length l1.length l2.length = true) := Lib.hid (by unfold greatB; rcases hg with h | h | h <;> simp [h])
    go_enter Try.func4, Try.ntmps4
    go_wp2_with (first | (go_at_call 11; refine (awake_any _).mono ?_; rintro e w1 ⟨rfl, hb⟩; have HB := Lib.hid hb; clear hb) | (go_at_call 12; refine (great_any _ _ _ _ _ _ _ _ _ _).mono ?_; rintro e w1 ⟨rfl, rfl⟩; rw [hgr.out]))
    go_ret
    exact ⟨rfl, HB.out⟩
  have hgr : Hid (greatB l0.length l1.length l2.length = false) := Lib.hid (by unfold greatB; simp; omega)
  have hb0 : l0.length ≤ 5000 := by omega
  have hb1 : l1.length ≤ 5000 := by omega
  have hb2 : l2.length ≤ 60 := by omega
  clear hg
  by_cases hf : 4096 < l0.length ∨ 4096 < l1.length
  · by_cases h0 : 4096 < l0.length
    · have hd : decide ((4096 : Int) < (l0.length : Int)) = true := by simp; omega
      go_enter Try.func4, Try.ntmps4
      go_wp2_with (first | (go_at_call 11; refine (awake_any _).mono ?_; rintro e w1 ⟨rfl, hb⟩; have HB := Lib.hid hb; clear hb) | (go_at_call 12; refine (great_any _ _ _ _ _ _ _ _ _ _).mono ?_; rintro e w1 ⟨rfl, rfl⟩; rw [hgr.out]) | (go_at_call 13; refine (new_full _ _ _ _ _ _ _ hf).mono ?_; rintro e w6 ⟨rfl, rfl⟩))
      go_ret
      exact ⟨rfl, HB.out⟩
    · have hd : decide ((4096 : Int) < (l0.length : Int)) = false := by simp; omega
      have hd2 : decide ((4096 : Int) < (l1.length : Int)) = true := by simp; omega
      go_enter Try.func4, Try.ntmps4
      go_wp2_with (first | (go_at_call 11; refine (awake_any _).mono ?_; rintro e w1 ⟨rfl, hb⟩; have HB := Lib.hid hb; clear hb) | (go_at_call 12; refine (great_any _ _ _ _ _ _ _ _ _ _).mono ?_; rintro e w1 ⟨rfl, rfl⟩; rw [hgr.out]) | (go_at_call 13; refine (new_full _ _ _ _ _ _ _ hf).mono ?_; rintro e w6 ⟨rfl, rfl⟩))
      go_ret
      exact ⟨rfl, HB.out⟩
  have hf0 : l0.length ≤ 4096 := by omega
  have hf1 : l1.length ≤ 4096 := by omega
  clear hf
  have Y0 := Lib.hid y0
  have Y1 := Lib.hid y1
  clear y0 y1
  go_enter Try.func4, Try.ntmps4
  go_wp2_with (first | (go_at_call 11; refine (awake_any _).mono ?_; rintro e w1 ⟨rfl, hb⟩; have HB := Lib.hid hb; clear hb) | (go_at_call 12; refine (great_any _ _ _ _ _ _ _ _ _ _).mono ?_; rintro e w1 ⟨rfl, rfl⟩; rw [hgr.out]) | (go_at_call 13; refine (new_okF _ _ _ _ _ _ l0 l1 _ (HX0.out.below HB.out) (HX1.out.below HB.out) rfl rfl hf0 hf1).mono ?_; rintro e w2 ⟨p, F, rfl, ht, hF, hb⟩; have HT := Lib.hid ht; have HF := Lib.hid hF; have HB2 := Lib.hid hb; clear ht hF hb))
  have HW2 := Lib.hid (below_on HB.out HB2.out)
  have HALL : Hid (TT w (w2.alloc (.cells #[.slice a0 l0.length cap0, .slice a1 l1.length cap1] 35)) p w2.heap.size l0 l1 l0 l1) := Lib.hid ⟨F, _, HT.out.below ((Below.refl _ _).alloc (Nat.le_refl _) _), rtape_new w2 w.heap.size a0 a1 cap0 cap1 l0 l1 (HX0.out.below HW2.out) (HX1.out.below HW2.out) HX0.out.old HX1.out.old HW2.out.size Y0.out Y1.out, fun k hk hg => by
      have h1 := HF.out k hk
      have h2 := HT.out.lt k hk
      have h3 := HB.out.size
      rcases hg with hg | hg <;> omega, fun k hk => Nat.le_trans HB.out.size (HF.out k hk), HW2.out.size, HW2.out.alloc HW2.out.size _⟩
  have HQ : Hid (w.heap.size ≤ w2.heap.size) := Lib.hid HW2.out.size
  obtain ⟨q, hq⟩ : ∃ q, q = w2.heap.size := ⟨_, rfl⟩
  rw [← hq] at HALL HQ ⊢
  clear hq HT HF HB2 HW2
  go_loopw [44] (fun i wr => ∃ k : Nat, k ≤ l2.length ∧ i = .int .i64 k ∧ ∃ ins outs, Hid (TT w wr p q ins outs ins outs) ∧ ins.length ≤ 4096 ∧ outs.length ≤ 4096) (fun i _ => l2.length - (intOf i).toNat)
  case atStart => exact ⟨0, by omega, rfl, l0, l1, HALL, hf0, hf1⟩
  case round =>
    clear HALL
    obtain ⟨k, hk, rfl, ins, outs, HR, hli, hlo⟩ := hrel
    by_cases hkl : k < l2.length
    · have hdl : (k : Int) < (l2.length : Int) := by omega
      obtain ⟨b, o, ⟨x1, x2⟩, rfl, hx, hbl, hc0, hc1⟩ := (HX2.out.below HR.out.bel).at hkl
      clear hx hbl
      obtain ⟨i', o', r, er, hst⟩ : ∃ i' o' r er, stepT x1 x2 ins outs = (i', o', r, er) := ⟨_, _, _, _, rfl⟩
      obtain ⟨hli', hlo'⟩ := step_lens x1 x2 ins outs i' o' r er hst hli hlo
      have HST := Lib.hid hst
      clear hst
      go_wp2_with (first
        | (go_at_call 16; refine (doTTb w wr _ p q x1 x2 ins outs ins outs HR.out hlo).mono ?_; rw [HST.out]; rintro e w3 ⟨rfl, ht, hk⟩; have HR2 := Lib.hid ht; have m0 : w3.cell? ⟨wr.heap.size, 0, none⟩ = some (.int .i64 x1) := (by rw [cell_of_row _ _ _ _ _ (0, 0) hk]; rfl); have m1 : w3.cell? ⟨wr.heap.size, 1, none⟩ = some (.int .i64 x2) := (by rw [cell_of_row _ _ _ _ _ (0, 0) hk]; rfl); clear ht hk)
        | (go_at_call 17; refine (refTT w _ p q x1 x2 i' o' ins outs HR2.out hli hlo).mono ?_; rw [HST.out]; rintro e w4 ⟨rfl, ht⟩; have HR3 := Lib.hid ht; clear ht))
      go_roundw
      case rel => exact ⟨k + 1, by omega, by go_num, i', o', HR3, hli', hlo'⟩
      case measure => simp [intOf]; omega
    · obtain ⟨ai, ao, ci, co, c0, c1, s1, s2⟩ := HR.out.read
      have HS1 := Lib.hid s1
      have HS2 := Lib.hid s2
      clear s1 s2
      go_upto_region 17 with fail
      go_region_with (go_at_call 15; refine (sameTT w _ p q ins outs ins outs _ _ _ _ (HR.out.below (Below.refl _ _).drew) HS1.out.drew HS2.out.drew hli hlo).mono ?_; rintro e w3 ⟨rfl, hb⟩; have HE := Lib.hid hb; clear hb)
      all_goals
        go_wp2
        go_ret
        exact ⟨rfl, HE.out⟩

set_option maxRecDepth 100000 in
theorem lifted (os : Os) (started : os.Started) (H : Type) (enc : TypeId × Value → H) :
    ReturnsInHanded {} Try.checked os 4 .any (Rows.tapeDoesSpec.pre6 enc Try.prog Try.f4 Rows.tapeDoesRow.domain false) (Rows.tapeDoesSpec.post enc Try.prog Try.f4 false true false false) := by
  refine returnsInHanded_of_change (C := Try.checked) own started (by kernel_rfl) Try.func4
    (ChangeSpec.witness6 (enc := enc) (C := Try.checked) false ⟨#[], #[.slice none 0 0, .slice none 0 0, .slice none 0 0], []⟩ 8 (by kernel_rfl) (by kernel_rfl) (by kernel_rfl) (by kernel_rfl)) ?_
  intro W base args ds gs before hval0 hW hcnd _
  have hval : ∀ (j : Nat) t v, Try.f4.params[j]? = some t → args[j]? = some v → Value.okWide Try.prog W .any base t v := hval0
  have hW' := hW
  obtain ⟨p, q, hA0, hV, rfl, hfz, hnd⟩ := hW
  have hA : DataW.TrodAll enc Try.prog W 0 (fun _ => true) true Try.f4.params.toList args.toList ds p := hA0
  rw [Try.params4] at hA hval
  obtain ⟨v0, vs0, d0, ds0, p0, q0, hargs, rfl, rfl, h0, r0⟩ := trodAll_cons hA
  obtain ⟨v1, vs1, d1, ds1, p1, q1, rfl, rfl, rfl, h1, r1⟩ := trodAll_cons r0
  obtain ⟨v2, vs2, d2, ds2, p2, q2, rfl, rfl, rfl, h2, r2⟩ := trodAll_cons r1
  obtain ⟨rfl, rfl, rfl⟩ := trodAll_nil r2
  obtain rfl : args = #[v0, v1, v2] := by cases args; simp_all
  obtain ⟨rfl, rfl⟩ := trodVars_none hV
  have k0 := h0
  have lt0 : ∀ x ∈ p0, x.block < W.heap.size := by obtain ⟨m, hm⟩ := k0; exact DataW.trod_lt m _ _ _ hm
  obtain ⟨a0, n0, cap0, l0, rfl, w0, x0, y0⟩ := open_intsS (hval 0 22 v0 rfl rfl) h0
  have k1 := h1
  have lt1 : ∀ x ∈ p1, x.block < W.heap.size := by obtain ⟨m, hm⟩ := k1; exact DataW.trod_lt m _ _ _ hm
  obtain ⟨a1, n1, cap1, l1, rfl, w1, x1, y1⟩ := open_intsS (hval 1 22 v1 rfl rfl) h1
  have k2 := h2
  have lt2 : ∀ x ∈ p2, x.block < W.heap.size := by obtain ⟨m, hm⟩ := k2; exact DataW.trod_lt m _ _ _ hm
  obtain ⟨a2, n2, cap2, l2, rfl, w2, x2⟩ := open_ops (hval 2 32 v2 rfl rfl) h2
  clear hA0 hval0
  refine (walk a0 n0 cap0 l0 a1 n1 cap1 l1 a2 n2 cap2 l2 W w0 x0 y0 w1 x1 y1 w2 x2).mono fun e W' ⟨he, bel⟩ => ?_
  subst he
  exact ⟨_, rfl, _, _, _, [], _, [], hW', trodAll_mk1 (shut_bool Try.underlying4 _), (trodAll_cons_mk (Below.trod laidOut (by kernel_rfl) (of_decide_eq_true (by kernel_rfl)) k0 bel lt0) (trodAll_cons_mk (Below.trod laidOut (by kernel_rfl) (of_decide_eq_true (by kernel_rfl)) k1 bel lt1) (trodAll_cons_mk (Below.trod laidOut (by kernel_rfl) (of_decide_eq_true (by kernel_rfl)) k2 bel lt2) trodAll_mk0))), rfl, bel.frame _, fun h => by cases h⟩

theorem over : Rows.tapeDoesRow.holds Try.pinned (OpenSpec.ofChange Rows.tapeDoesSpec) :=
  OpenClaim.holds_of_wide 4 Try.f4 rfl rfl rfl rfl rfl rfl rfl ⟨rfl, rfl, rfl, rfl, rfl⟩ rfl rfl rfl rfl rfl (by kernel_rfl) Try.func4 (by kernel_rfl)
    (of_decide_eq_true (by kernel_rfl)) (by unfold Func.isWrapper; first | (rw [if_pos (by decide +kernel)]; kernel_rfl) | (rw [if_neg (by decide +kernel)]; exact ⟨rfl, rfl⟩))
    (fun os started H enc _ => lifted os started H enc)

theorem proved : Rows.TapeDoesSaid := over
#print axioms proved
end Go.Proofs.Ythbeillgpnffmaa.tapeDoes
