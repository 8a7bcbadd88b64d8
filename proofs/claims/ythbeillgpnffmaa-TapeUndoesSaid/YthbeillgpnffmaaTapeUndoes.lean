/- TapeUndoes answers true for all sequences and all operations, and changes nothing that existed; no conditions. -/
import Derived.Test.YthbeillgpnffmaaRows
import Derived.WalkKit
import Derived.ProofKit
import Derived.OpenShut
import Derived.ShutString
import Derived.ChangeOld
import Derived.Below
import Derived.Test.YthbeillgpnffmaaUndo
import Derived.Lib.Hide
import Derived.WalkSmall
import Derived.WalkSpells
import Derived.WalkLawsBesides
import Derived.IntWalk
import Derived.Outline
import Derived.Deep.QuietTactic
import Derived.BigQuiet
import Derived.Deep.RegionWith
namespace Go.Proofs.Ythbeillgpnffmaa.tapeUndoes
open Go.ChangeShapes Go.WideShapes Go.ChangeAt Go.RowKit
open Go.ChangeMaps (open_string shut_string)
set_option linter.unusedSimpArgs false
set_option linter.unusedVariables false

theorem own : ownKnob Try.prog.godebug = none := by kernel_rfl
theorem laidOut : laidOutB Try.prog = true := by kernel_rfl

set_option maxRecDepth 100000 in
set_option maxHeartbeats 1000000 in
theorem walk (a0 : Option Addr) (n0 cap0 : Nat) (l0 : List Int) (a1 : Option Addr) (n1 cap1 : Nat) (l1 : List Int) (a2 : Option Addr) (n2 cap2 : Nat) (l2 : List (Int × Int)) (w : World) (w0 : l0.length = n0) (x0 : SliceI w a0 l0) (y0 : n0 ≤ cap0) (w1 : l1.length = n1) (x1 : SliceI w a1 l1) (y1 : n1 ≤ cap1) (w2 : l2.length = n2) (x2 : SliceO w a2 l2) :
    Calls Try.prog 5 #[.slice a0 n0 cap0, .slice a1 n1 cap1, .slice a2 n2 cap2] w fun e w' => e = .returned (.bool true) ∧ Below w.heap.size w w' := by
  subst w0 w1 w2
  have HX0 := Lib.hid x0
  have HX1 := Lib.hid x1
  have HX2 := Lib.hid x2
  clear x0 x1 x2
  by_cases hg : 5000 < l0.length ∨ 5000 < l1.length ∨ 60 < l2.length
  · have hgr : Hid (greatB l0.length l1.length l2.length = true) := Lib.hid (by unfold greatB; rcases hg with h | h | h <;> simp [h])
    go_enter Try.func5, Try.ntmps5
    go_wp2_with (first | (go_at_call 11; refine (awake_any _).mono ?_; rintro e w1 ⟨rfl, hb⟩; have HB := Lib.hid hb; clear hb) | (go_at_call 12; refine (great_any _ _ _ _ _ _ _ _ _ _).mono ?_; rintro e w1 ⟨rfl, rfl⟩; rw [hgr.out]))
    go_ret
    exact ⟨rfl, HB.out⟩
  have hgr : Hid (greatB l0.length l1.length l2.length = false) := Lib.hid (by unfold greatB; simp; omega)
  have hb0 : l0.length ≤ 5000 := by omega
  have hb1 : l1.length ≤ 5000 := by omega
  have hb2 : l2.length ≤ 60 := by omega
  clear hg
  by_cases hf : 4096 < l0.length ∨ 4096 < l1.length
  · go_enter Try.func5, Try.ntmps5
    go_wp2_with (first | (go_at_call 11; refine (awake_any _).mono ?_; rintro e w1 ⟨rfl, hb⟩; have HB := Lib.hid hb; clear hb) | (go_at_call 12; refine (great_any _ _ _ _ _ _ _ _ _ _).mono ?_; rintro e w1 ⟨rfl, rfl⟩; rw [hgr.out]) | (go_at_call 13; refine (new_full _ _ _ _ _ _ _ hf).mono ?_; rintro e w6 ⟨rfl, rfl⟩))
    go_ret
    exact ⟨rfl, HB.out⟩
  have hf0 : l0.length ≤ 4096 := by omega
  have hf1 : l1.length ≤ 4096 := by omega
  clear hf
  go_enter Try.func5, Try.ntmps5
  go_wp2_with (first | (go_at_call 11; refine (awake_any _).mono ?_; rintro e w1 ⟨rfl, hb⟩; have HB := Lib.hid hb; clear hb) | (go_at_call 12; refine (great_any _ _ _ _ _ _ _ _ _ _).mono ?_; rintro e w1 ⟨rfl, rfl⟩; rw [hgr.out]) | (go_at_call 13; refine (new_okF _ _ _ _ _ _ l0 l1 _ (HX0.out.below HB.out) (HX1.out.below HB.out) rfl rfl hf0 hf1).mono ?_; rintro e w2 ⟨p, F, rfl, ht, hF, hb⟩; have HT := Lib.hid ht; have HF := Lib.hid hF; have HB2 := Lib.hid hb; clear ht hF hb))
  have HALL : Hid (TU w w2 p (.slice none 0 0) l0 l1 []) := Lib.hid ⟨F, HT.out, fun k hk => Nat.le_trans HB.out.size (HF.out k hk), below_on HB.out HB2.out, World.ownsRow_nil _ _ _ _, fun k _ e => by cases e⟩
  clear HT HF HB2
  go_loopw [9, 33] (fun v i wr => ∃ k : Nat, k ≤ l2.length ∧ i = .int .i64 k ∧ ∃ ins outs us, Hid (TU w wr p v ins outs us) ∧ Hid (UN us.reverse ins outs l0 l1) ∧ us.length ≤ k ∧ ins.length ≤ 4096 ∧ outs.length ≤ 4096) (fun _ i _ => l2.length - (intOf i).toNat)
  case atStart => exact ⟨0, by omega, rfl, l0, l1, [], HALL, Lib.hid ⟨rfl, rfl⟩, Nat.le_refl _, hf0, hf1⟩
  case round =>
    clear HALL
    obtain ⟨k, hk, rfl, ins, outs, us, HR, HU, hus, hli, hlo⟩ := hrel
    by_cases hkl : k < l2.length
    · have hdl : (k : Int) < (l2.length : Int) := by omega
      obtain ⟨b, o, ⟨x1, x2⟩, rfl, hx, hbl, hc0, hc1⟩ := (HX2.out.below HR.out.bel).at hkl
      clear hx hbl
      obtain ⟨i', o', r, er, hst⟩ : ∃ i' o' r er, stepT x1 x2 ins outs = (i', o', r, er) := ⟨_, _, _, _, rfl⟩
      obtain ⟨hli', hlo'⟩ := step_lens x1 x2 ins outs i' o' r er hst hli hlo
      have HST := Lib.hid hst
      have HA : Hid (Below wr.heap.size wr (wr.alloc (.cells #[.int .i64 x1, .int .i64 x2] 37))) := Lib.hid ((Below.refl _ _).alloc (Nat.le_refl _) _)
      by_cases her : er = 0
      · subst her
        obtain ⟨hin, _, _⟩ := step_inv x1 x2 ins outs i' o' r hst hli hlo
        have HIN := Lib.hid hin
        clear hst hin
        go_wp2_with (first
          | (go_at_call 16; refine (doTU w wr _ (.cells #[.int .i64 x1, .int .i64 x2] 37) p x1 x2 _ ins outs us HR.out HA.out (heap_alloc_new wr _) hlo).mono ?_; rw [HST.out]; rintro e w3 ⟨rfl, ht, hk⟩; have HR2 := Lib.hid ht; have m0 : w3.cell? ⟨wr.heap.size, 0, none⟩ = some (.int .i64 x1) := (by rw [cell_of_row _ _ _ _ _ (0, 0) hk]; rfl); have m1 : w3.cell? ⟨wr.heap.size, 1, none⟩ = some (.int .i64 x2) := (by rw [cell_of_row _ _ _ _ _ (0, 0) hk]; rfl); clear ht hk)
          | (go_at_call 18; refine (inverse_any _ _ _ _).mono ?_; rintro e w4 ⟨rfl, hb⟩; have HR3 := Lib.hid ((HR2.out.below hb).below ((Below.refl _ _).alloc (Nat.le_refl _) (.cells #[.int .i64 (invK x1), .int .i64 (invN x1 r)] 37))); have hc2 : (w4.alloc (.cells #[.int .i64 (invK x1), .int .i64 (invN x1 r)] 37)).cell? ⟨w4.heap.size, 0, none⟩ = some (.int .i64 (invK x1)) := (by rw [cell_of_row _ _ _ _ _ (0, 0) (heap_alloc_new w4 _)]; rfl); have hc3 : (w4.alloc (.cells #[.int .i64 (invK x1), .int .i64 (invN x1 r)] 37)).cell? ⟨w4.heap.size, 1, none⟩ = some (.int .i64 (invN x1 r)) := (by rw [cell_of_row _ _ _ _ _ (0, 0) (heap_alloc_new w4 _)]; rfl); have HC2 := Lib.hid (And.intro hc2 hc3); clear hb hc2 hc3)
          | (at_builtin; go_loud (refine wpList_appO (w0 := w) rfl _ _ rfl p _ i' o' us rfl HR3.out w4.heap.size 1 _ _ rfl HC2.out.1 HC2.out.2 (by omega) ?_; intro v' w5 ht hb; have HR4 := Lib.hid ht; clear ht hb)))
        go_roundw
        case rel => exact ⟨k + 1, by omega, by go_num, i', o', us ++ [(invK x1, invN x1 r)], HR4, Lib.hid (by rw [List.reverse_append]; exact ⟨_, _, _, HIN.out, hli, hlo, HU.out⟩), by rw [List.length_append, List.length_singleton]; omega, hli', hlo'⟩
        case measure => simp [intOf]; omega
      · obtain ⟨rfl, rfl, rfl⟩ := step_err x1 x2 ins outs i' o' r er hst her
        have hne : (er == 0) = false := by simpa using her
        clear hst
        go_wp2_with (go_at_call 16; refine (doTU w wr _ (.cells #[.int .i64 x1, .int .i64 x2] 37) p x1 x2 _ i' o' us HR.out HA.out (heap_alloc_new wr _) hlo).mono ?_; rw [HST.out]; rintro e w3 ⟨rfl, ht, hk⟩; have HR2 := Lib.hid ht; have m0 : w3.cell? ⟨wr.heap.size, 0, none⟩ = some (.int .i64 x1) := (by rw [cell_of_row _ _ _ _ _ (0, 0) hk]; rfl); have m1 : w3.cell? ⟨wr.heap.size, 1, none⟩ = some (.int .i64 x2) := (by rw [cell_of_row _ _ _ _ _ (0, 0) hk]; rfl); clear ht hk)
        go_roundw
        case rel => exact ⟨k + 1, by omega, by go_num, i', o', us, HR2, HU, by omega, hli, hlo⟩
        case measure => simp [intOf]; omega
    · obtain rfl : k = l2.length := by omega
      obtain ⟨av, cv, hvv, hat⟩ := HR.out.form
      subst hvv
      have HAT := Lib.hid hat
      clear hat HAT
      have hsub : IntKind.i64.wrap ((us.length : Int) - 1) = (us.length : Int) - 1 := IntWalk.i64_in _ (by omega)
      go_wp2
      go_loopw [14] (fun i wr => ∃ (m : Nat) (ins outs : List Int), m ≤ us.length ∧ i = .int .i64 ((m : Int) - 1) ∧ Hid (TU w wr p (.slice av us.length cv) ins outs us) ∧ Hid (UN (us.take m).reverse ins outs l0 l1) ∧ ins.length ≤ 4096 ∧ outs.length ≤ 4096) (fun i _ => (intOf i + 1).toNat)
      case atStart => exact ⟨us.length, ins, outs, Nat.le_refl _, rfl, HR, Lib.hid (by rw [List.take_length]; exact HU.out), hli, hlo⟩
      case round =>
        clear HR HU hsub hli hlo
        obtain ⟨m, ins, outs, hm, rfl, HR, HU, hli, hlo⟩ := hrel
        cases m with
        | zero =>
          have hneg : ((0 : Nat) : Int) - 1 = -1 := rfl
          rw [hneg]
          obtain ⟨rfl, rfl⟩ := HU.out
          go_wp2_with (go_at_call 15; refine (sameB w _ p ins outs _ _ _ _ HR.out.tape (HX0.out.below HR.out.bel) (HX1.out.below HR.out.bel) (by omega) (by omega)).mono ?_; rintro e w9 ⟨rfl, ht, -⟩; have HE := Lib.hid ht; clear ht)
          go_ret
          exact ⟨rfl, HE.out.bel⟩
        | succ m =>
          have he : ((m + 1 : Nat) : Int) - 1 = (m : Int) := by omega
          rw [he]
          have hml : m < us.length := by omega
          obtain ⟨y, hy⟩ : ∃ y, us[m]? = some y := ⟨_, List.getElem?_eq_getElem hml⟩
          obtain ⟨y1, y2⟩ := y
          obtain ⟨a', c', hv', hat⟩ := HR.out.form
          cases hv'
          obtain ⟨g, rfl, hlc, hc0, hc1⟩ := hat m _ hy
          have htk : us.take (m + 1) = us.take m ++ [(y1, y2)] := by rw [List.take_add_one, hy]; rfl
          have HU2 := HU.out
          rw [htk, List.reverse_append] at HU2
          obtain ⟨i', o', r, hst, hli', hlo', hun⟩ := HU2
          have HST := Lib.hid hst
          have HUN := Lib.hid hun
          have hdl : (m : Int) < (us.length : Int) := by omega
          have hge : (0 : Int) ≤ (m : Int) := by omega
          clear hst hun htk hat hy HU
          go_wp2_with (go_at_call 16; refine (doU w wr p y1 y2 _ ins outs us HR.out hlo).mono ?_; rw [HST.out]; rintro e w3 ⟨rfl, ht⟩; have HR2 := Lib.hid ht; clear ht)
          go_roundw
          case rel => exact ⟨m, i', o', by omega, by go_num, HR2, HUN, hli', hlo'⟩
          case measure => simp [intOf]

set_option maxRecDepth 100000 in
theorem lifted (os : Os) (started : os.Started) (H : Type) (enc : TypeId × Value → H) :
    ReturnsInHanded {} Try.checked os 5 .any (Rows.tapeUndoesSpec.pre6 enc Try.prog Try.f5 Rows.tapeUndoesRow.domain false) (Rows.tapeUndoesSpec.post enc Try.prog Try.f5 false true false false) := by
  refine returnsInHanded_of_change (C := Try.checked) own started (by kernel_rfl) Try.func5
    (ChangeSpec.witness6 (enc := enc) (C := Try.checked) false ⟨#[], #[.slice none 0 0, .slice none 0 0, .slice none 0 0], []⟩ 8 (by kernel_rfl) (by kernel_rfl) (by kernel_rfl) (by kernel_rfl)) ?_
  intro W base args ds gs before hval0 hW hcnd _
  have hval : ∀ (j : Nat) t v, Try.f5.params[j]? = some t → args[j]? = some v → Value.okWide Try.prog W .any base t v := hval0
  have hW' := hW
  obtain ⟨p, q, hA0, hV, rfl, hfz, hnd⟩ := hW
  have hA : DataW.TrodAll enc Try.prog W 0 (fun _ => true) true Try.f5.params.toList args.toList ds p := hA0
  rw [Try.params5] at hA hval
  obtain ⟨v0, vs0, d0, ds0, p0, q0, hargs, rfl, rfl, h0, r0⟩ := trodAll_cons hA
  obtain ⟨v1, vs1, d1, ds1, p1, q1, rfl, rfl, rfl, h1, r1⟩ := trodAll_cons r0
  obtain ⟨v2, vs2, d2, ds2, p2, q2, rfl, rfl, rfl, h2, r2⟩ := trodAll_cons r1
  obtain ⟨rfl, rfl, rfl⟩ := trodAll_nil r2
  obtain rfl : args = #[v0, v1, v2] := by cases args; simp_all
  obtain ⟨rfl, rfl⟩ := trodVars_none hV
  have k0 := h0
  have lt0 : ∀ x ∈ p0, x.block < W.heap.size := by obtain ⟨m, hm⟩ := k0; exact DataW.trod_lt m _ _ _ hm
  obtain ⟨a0, n0, cap0, l0, rfl, w0, x0, y0⟩ := open_intsS (hval 0 22 v0 rfl rfl) h0
  have k1 := h1
  have lt1 : ∀ x ∈ p1, x.block < W.heap.size := by obtain ⟨m, hm⟩ := k1; exact DataW.trod_lt m _ _ _ hm
  obtain ⟨a1, n1, cap1, l1, rfl, w1, x1, y1⟩ := open_intsS (hval 1 22 v1 rfl rfl) h1
  have k2 := h2
  have lt2 : ∀ x ∈ p2, x.block < W.heap.size := by obtain ⟨m, hm⟩ := k2; exact DataW.trod_lt m _ _ _ hm
  obtain ⟨a2, n2, cap2, l2, rfl, w2, x2⟩ := open_ops (hval 2 32 v2 rfl rfl) h2
  clear hA0 hval0
  refine (walk a0 n0 cap0 l0 a1 n1 cap1 l1 a2 n2 cap2 l2 W w0 x0 y0 w1 x1 y1 w2 x2).mono fun e W' ⟨he, bel⟩ => ?_
  subst he
  exact ⟨_, rfl, _, _, _, [], _, [], hW', trodAll_mk1 (shut_bool Try.underlying4 _), (trodAll_cons_mk (Below.trod laidOut (by kernel_rfl) (of_decide_eq_true (by kernel_rfl)) k0 bel lt0) (trodAll_cons_mk (Below.trod laidOut (by kernel_rfl) (of_decide_eq_true (by kernel_rfl)) k1 bel lt1) (trodAll_cons_mk (Below.trod laidOut (by kernel_rfl) (of_decide_eq_true (by kernel_rfl)) k2 bel lt2) trodAll_mk0))), rfl, bel.frame _, fun h => by cases h⟩

theorem over : Rows.tapeUndoesRow.holds Try.pinned (OpenSpec.ofChange Rows.tapeUndoesSpec) :=
  OpenClaim.holds_of_wide 5 Try.f5 rfl rfl rfl rfl rfl rfl rfl ⟨rfl, rfl, rfl, rfl, rfl⟩ rfl rfl rfl rfl rfl (by kernel_rfl) Try.func5 (by kernel_rfl)
    (of_decide_eq_true (by kernel_rfl)) (by unfold Func.isWrapper; first | (rw [if_pos (by decide +kernel)]; kernel_rfl) | (rw [if_neg (by decide +kernel)]; exact ⟨rfl, rfl⟩))
    (fun os started H enc _ => lifted os started H enc)

theorem proved : Rows.TapeUndoesSaid := over
#print axioms proved
end Go.Proofs.Ythbeillgpnffmaa.tapeUndoes
