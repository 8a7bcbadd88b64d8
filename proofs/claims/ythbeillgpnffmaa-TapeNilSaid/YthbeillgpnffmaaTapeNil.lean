/- TapeNil answers true for all operations, and changes nothing that existed; no conditions. -/
import Derived.Test.YthbeillgpnffmaaRows
import Derived.WalkKit
import Derived.ProofKit
import Derived.OpenShut
import Derived.ShutString
import Derived.ChangeOld
import Derived.Below
import Derived.Test.YthbeillgpnffmaaUndo
import Derived.StillTailTactics
import Derived.Lib.Hide
import Derived.WalkSmall
import Derived.WalkSpells
import Derived.WalkLawsBesides
import Derived.IntWalk
import Derived.Outline
import Derived.Deep.QuietTactic
import Derived.BigQuiet
import Derived.Deep.RegionWith
namespace Go.Proofs.Ythbeillgpnffmaa.tapeNil
open Go.ChangeShapes Go.WideShapes Go.ChangeAt Go.RowKit
open Go.ChangeMaps (open_string shut_string)
set_option linter.unusedSimpArgs false
set_option linter.unusedVariables false

theorem own : ownKnob Try.prog.godebug = none := by kernel_rfl
theorem laidOut : laidOutB Try.prog = true := by kernel_rfl

set_option maxRecDepth 100000 in
set_option maxHeartbeats 1000000 in
theorem walk (a0 : Option Addr) (n0 cap0 : Nat) (l0 : List (Int × Int)) (w : World) (w0 : l0.length = n0) (x0 : SliceO w a0 l0) :
    Calls Try.prog 10 #[.slice a0 n0 cap0] w fun e w' => e = .returned (.bool true) ∧ Below w.heap.size w w' := by
  subst w0
  have HX0 := Lib.hid x0
  clear x0
  by_cases hg : 60 < l0.length
  · have hgr : Hid (greatB 0 0 l0.length = true) := Lib.hid (by unfold greatB; simp [hg])
    go_enter Try.func10, Try.ntmps10
    go_wp2_with (first | (go_at_call 11; refine (awake_any _).mono ?_; rintro e w1 ⟨rfl, hb⟩; have HB := Lib.hid hb; clear hb) | (go_at_call 12; refine (great_any _ _ _ _ _ _ _ _ _ _).mono ?_; rintro e w1 ⟨rfl, rfl⟩; rw [hgr.out]))
    go_ret
    exact ⟨rfl, HB.out⟩
  have hgr : Hid (greatB 0 0 l0.length = false) := Lib.hid (by unfold greatB; simp; omega)
  have hb0 : l0.length ≤ 60 := by omega
  clear hg
  go_enter Try.func10, Try.ntmps10
  go_wp2_with (first | (go_at_call 11; refine (awake_any _).mono ?_; rintro e w1 ⟨rfl, hb⟩; have HB := Lib.hid hb; clear hb) | (go_at_call 12; refine (great_any _ _ _ _ _ _ _ _ _ _).mono ?_; rintro e w1 ⟨rfl, rfl⟩; rw [hgr.out]))
  have HALL : Hid (TT w ((w1.alloc (.cells #[.slice none 0 0, .slice none 0 0] 48)).alloc (.cells #[.slice none 0 0, .slice none 0 0] 35)) w1.heap.size (w1.heap.size + 1) [] [] [] []) := Lib.hid (by
    have hs : ((w1.alloc (.cells #[.slice none 0 0, .slice none 0 0] 48)).alloc (.cells #[.slice none 0 0, .slice none 0 0] 35)).heap.size = w1.heap.size + 2 := by simp
    have hn1 : ((w1.alloc (.cells #[.slice none 0 0, .slice none 0 0] 48)).alloc (.cells #[.slice none 0 0, .slice none 0 0] 35)).heap[w1.heap.size]? = some (.cells #[.slice none 0 0, .slice none 0 0] 48) := heap_old' _ _ (by simp) (heap_alloc_new w1 _)
    have hn2 : ((w1.alloc (.cells #[.slice none 0 0, .slice none 0 0] 48)).alloc (.cells #[.slice none 0 0, .slice none 0 0] 35)).heap[w1.heap.size + 1]? = some (.cells #[.slice none 0 0, .slice none 0 0] 35) := heap_new' _ _ (by simp)
    exact ⟨fun k => k = w1.heap.size, fun k => k = w1.heap.size + 1, ⟨.slice none 0 0, .slice none 0 0, ⟨hn1, .inl ⟨rfl, rfl⟩, .inl ⟨rfl, rfl⟩, fun k hk => by cases hk⟩, rfl, fun k hk => by (cases hk), fun k hk => by (cases hk), fun k hk => by rw [hs, hk]; omega⟩,
      ⟨none, none, 0, 0, ⟨hn2, fun e => absurd rfl e, fun e => absurd rfl e⟩, Nat.le_refl _, Nat.le_refl _, rfl, fun b o e => by (cases e), fun b o e => by (cases e), fun k hk => by rw [hs, hk]; omega⟩,
      fun k h1 h2 => by omega, fun k hk => by rw [hk]; exact HB.out.size, Nat.le_trans HB.out.size (Nat.le_succ _), (HB.out.alloc HB.out.size _).alloc (by simp; have := HB.out.size; omega) _⟩)
  obtain ⟨p, hp⟩ : ∃ p, p = w1.heap.size := ⟨_, rfl⟩
  obtain ⟨q, hq⟩ : ∃ q, q = w1.heap.size + 1 := ⟨_, rfl⟩
  try rw [← hq]
  try rw [← hq] at HALL
  try rw [← hp]
  try rw [← hp] at HALL
  clear hp hq
  go_loopw [22] (fun i wr => ∃ k : Nat, k ≤ l0.length ∧ i = .int .i64 k ∧ ∃ ins outs, Hid (TT w wr p q ins outs ins outs) ∧ ins.length ≤ 4096 ∧ outs.length ≤ 4096) (fun i _ => l0.length - (intOf i).toNat)
  case atStart => exact ⟨0, by omega, rfl, [], [], HALL, by decide, by decide⟩
  case round =>
    clear HALL
    obtain ⟨k, hk, rfl, ins, outs, HR, hli, hlo⟩ := hrel
    by_cases hkl : k < l0.length
    · have hdl : (k : Int) < (l0.length : Int) := by omega
      obtain ⟨b, o, ⟨x1, x2⟩, rfl, hx, hbl, hc0, hc1⟩ := (HX0.out.below HR.out.bel).at hkl
      clear hx hbl
      obtain ⟨i', o', r, er, hst⟩ : ∃ i' o' r er, stepT x1 x2 ins outs = (i', o', r, er) := ⟨_, _, _, _, rfl⟩
      obtain ⟨hli', hlo'⟩ := step_lens x1 x2 ins outs i' o' r er hst hli hlo
      have HST := Lib.hid hst
      clear hst
      go_wp2_with (first
        | (go_at_call_of 16 (Value.pointer none); refine (do_nil x1 x2 _).mono ?_; rintro e w3 ⟨rfl, hb⟩; have HB3 := Lib.hid ((Below.refl wr.heap.size wr).alloc (Nat.le_refl _) (.cells #[.int .i64 x1, .int .i64 x2] 37)); have hk3 := (hb.block wr.heap.size (by simp)).trans (heap_alloc_new wr (.cells #[.int .i64 x1, .int .i64 x2] 37)); replace HB3 := Lib.hid (below_on HB3.out hb); have HK3 := Lib.hid hk3; have m0 : w3.cell? ⟨wr.heap.size, 0, none⟩ = some (.int .i64 x1) := (by rw [cell_of_row _ _ _ _ _ (0, 0) hk3]; rfl); have m1 : w3.cell? ⟨wr.heap.size, 1, none⟩ = some (.int .i64 x2) := (by rw [cell_of_row _ _ _ _ _ (0, 0) hk3]; rfl); clear hb hk3)
        | (go_at_call_of 16 p; refine (doTTk w wr _ _ p q x1 x2 ins outs ins outs HR.out HB3.out HK3.out hlo).mono ?_; rw [HST.out]; rintro e w4 ⟨rfl, ht, hk4⟩; have HR2 := Lib.hid ht; clear m0 m1; have m0 : w4.cell? ⟨wr.heap.size, 0, none⟩ = some (.int .i64 x1) := (by rw [cell_of_row _ _ _ _ _ (0, 0) hk4]; rfl); have m1 : w4.cell? ⟨wr.heap.size, 1, none⟩ = some (.int .i64 x2) := (by rw [cell_of_row _ _ _ _ _ (0, 0) hk4]; rfl); clear ht hk4)
        | (go_at_call 17; refine (refTT w _ p q x1 x2 i' o' ins outs HR2.out hli hlo).mono ?_; rw [HST.out]; rintro e w5 ⟨rfl, ht⟩; have HR3 := Lib.hid ht; clear ht))
      go_roundw
      case rel => exact ⟨k + 1, by omega, by go_num, i', o', HR3, hli', hlo'⟩
      case measure => simp [intOf]; omega
    · obtain ⟨ai, ao, ci, co, c0, c1, s1, s2⟩ := HR.out.read
      have HS1 := Lib.hid s1
      have HS2 := Lib.hid s2
      clear s1 s2
      go_upto_region 17 with fail
      refine wp_region_still_tail 19 (by kernel_rfl) (by kernel_rfl) ?_
      simp only [List.take_succ_cons, List.take_zero, List.drop_succ_cons, List.drop_zero]
      still_step
      still_call (in_nil _)
      still_step
      still_step
      still_step
      still_step
      still_call (out_nil _)
      repeat still_step
      refine wpStill_nil ?_
      change wpList _ _ _ _ _ wr.drew
      go_wp2_with (go_at_call 15; refine (sameTT w _ p q ins outs ins outs _ _ _ _ (HR.out.below (Below.refl _ _).drew) HS1.out.drew HS2.out.drew hli hlo).mono ?_; rintro e w3 ⟨rfl, hb⟩; have HE := Lib.hid hb; clear hb)
      go_ret
      exact ⟨rfl, HE.out⟩

set_option maxRecDepth 100000 in
theorem lifted (os : Os) (started : os.Started) (H : Type) (enc : TypeId × Value → H) :
    ReturnsInHanded {} Try.checked os 10 .any (Rows.tapeNilSpec.pre6 enc Try.prog Try.f10 Rows.tapeNilRow.domain false) (Rows.tapeNilSpec.post enc Try.prog Try.f10 false true false false) := by
  refine returnsInHanded_of_change (C := Try.checked) own started (by kernel_rfl) Try.func10
    (ChangeSpec.witness6 (enc := enc) (C := Try.checked) false ⟨#[], #[.slice none 0 0], []⟩ 8 (by kernel_rfl) (by kernel_rfl) (by kernel_rfl) (by kernel_rfl)) ?_
  intro W base args ds gs before hval0 hW hcnd _
  have hval : ∀ (j : Nat) t v, Try.f10.params[j]? = some t → args[j]? = some v → Value.okWide Try.prog W .any base t v := hval0
  have hW' := hW
  obtain ⟨p, q, hA0, hV, rfl, hfz, hnd⟩ := hW
  have hA : DataW.TrodAll enc Try.prog W 0 (fun _ => true) true Try.f10.params.toList args.toList ds p := hA0
  rw [Try.params10] at hA hval
  obtain ⟨v0, vs0, d0, ds0, p0, q0, hargs, rfl, rfl, h0, r0⟩ := trodAll_cons hA
  obtain ⟨rfl, rfl, rfl⟩ := trodAll_nil r0
  obtain rfl : args = #[v0] := by cases args; simp_all
  obtain ⟨rfl, rfl⟩ := trodVars_none hV
  have k0 := h0
  have lt0 : ∀ x ∈ p0, x.block < W.heap.size := by obtain ⟨m, hm⟩ := k0; exact DataW.trod_lt m _ _ _ hm
  obtain ⟨a0, n0, cap0, l0, rfl, w0, x0⟩ := open_ops (hval 0 32 v0 rfl rfl) h0
  clear hA0 hval0
  refine (walk a0 n0 cap0 l0 W w0 x0).mono fun e W' ⟨he, bel⟩ => ?_
  subst he
  exact ⟨_, rfl, _, _, _, [], _, [], hW', trodAll_mk1 (shut_bool Try.underlying4 _), (trodAll_cons_mk (Below.trod laidOut (by kernel_rfl) (of_decide_eq_true (by kernel_rfl)) k0 bel lt0) trodAll_mk0), rfl, bel.frame _, fun h => by cases h⟩

theorem over : Rows.tapeNilRow.holds Try.pinned (OpenSpec.ofChange Rows.tapeNilSpec) :=
  OpenClaim.holds_of_wide 10 Try.f10 rfl rfl rfl rfl rfl rfl rfl ⟨rfl, rfl, rfl, rfl, rfl⟩ rfl rfl rfl rfl rfl (by kernel_rfl) Try.func10 (by kernel_rfl)
    (of_decide_eq_true (by kernel_rfl)) (by unfold Func.isWrapper; first | (rw [if_pos (by decide +kernel)]; kernel_rfl) | (rw [if_neg (by decide +kernel)]; exact ⟨rfl, rfl⟩))
    (fun os started H enc _ => lifted os started H enc)

theorem proved : Rows.TapeNilSaid := over
#print axioms proved
end Go.Proofs.Ythbeillgpnffmaa.tapeNil
