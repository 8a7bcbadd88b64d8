/- The reference's tape: appending to the output. -/
import Derived.Test.YthbeillgpnffmaaRows
import Derived.WalkKit
import Derived.ProofKit
import Derived.OpenShut
import Derived.Below
import Derived.Lib.Hide
import Derived.WalkSpells
import Derived.WalkLawsBesides
import Derived.Outline
import Derived.WalkSmall
import Derived.IntWalk
import Derived.Deep.OwnRows
import Derived.Deep.QuietTactic
import Derived.BigQuiet
import Derived.Test.YthbeillgpnffmaaRefB
import Derived.Deep.Cut
namespace Go.Proofs.Ythbeillgpnffmaa
open Go.ChangeShapes Go.WideShapes Go.ChangeAt Go.RowKit
set_option linter.unusedSimpArgs false
set_option linter.unusedVariables false

set_option maxRecDepth 100000 in
set_option maxHeartbeats 2000000 in
theorem refDo3 (G : Nat → Prop) (q : Nat) (n : Int) (ins outs : List Int) (w : World) (h : RTape w G q ins outs) (h1 : ins.length ≤ 60000) (h2 : outs.length ≤ 60000) :
    Calls Try.prog 17 #[.pointer (some ⟨q, 0, none⟩), .agg #[.int .i64 3, .int .i64 n]] w fun e w' => e = .returned (.tuple #[.int .i64 (stepT 3 n ins outs).2.2.1, .int .i64 (stepT 3 n ins outs).2.2.2]) ∧ RPost G w q (stepT 3 n ins outs).1 (stepT 3 n ins outs).2.1 w' := by
  have H := Lib.hid h
  obtain ⟨ai, ao, ci, co, hr, hci, hco, f1, f2, f3, f4⟩ := h
  have c0 : w.cell? ⟨q, 0, none⟩ = some (.slice ai ins.length ci) := by rw [cell_of_row w q 0 _ _ _ hr.1]; rfl
  have c1 : w.cell? ⟨q, 1, none⟩ = some (.slice ao outs.length co) := by rw [cell_of_row w q 1 _ _ _ hr.1]; rfl
  have z0 := frozen_of_row w q 0 _ _ hr.1
  have z1 := frozen_of_row w q 1 _ _ hr.1
  have HR := Lib.hid hr
  have HF := Lib.hid (And.intro hci (And.intro hco (And.intro f1 (And.intro f2 (And.intro f3 f4)))))
  have hql := f4 q f1
  have HA : Hid (Below w.heap.size w (w.alloc (.cells #[.int .i64 3, .int .i64 n] 37))) := Lib.hid ((Below.refl _ _).alloc (Nat.le_refl _) _)
  clear hr f1 f2 f3 f4
  by_cases hf : 4096 ≤ outs.length
  · have hst : stepT 3 n ins outs = (ins, outs, 0, 5) := by unfold stepT; rw [if_neg (by decide), if_neg (by decide), if_pos rfl, if_pos hf]
    have hd : decide ((4096 : Int) ≤ (outs.length : Int)) = true := by simp; omega
    have hd2 : (4096 : Int) ≤ (outs.length : Int) := by omega
    rw [hst]
    go_enter Try.func17, Try.ntmps17
    go_wp2
    refine bodyPost_ret (v := .tuple #[.int .i64 0, .int .i64 5]) (by simp [results, Try.results17, go_sem]) rfl ?_
    exact ⟨rfl, RPost.same H.out HA.out⟩
  · have hst : stepT 3 n ins outs = (ins, outs ++ [n], 0, 0) := by unfold stepT; rw [if_neg (by decide), if_neg (by decide), if_pos rfl, if_neg hf]
    have hd : decide ((4096 : Int) ≤ (outs.length : Int)) = false := by simp; omega
    have hd2 : ¬ (4096 : Int) ≤ (outs.length : Int) := by omega
    rw [hst]
    have HS := Lib.hid (HR.out.2.2.below HA.out)
    go_enter Try.func17, Try.ntmps17
    go_upto_region 20 with fail
    have d1 : (w.alloc (.cells #[.int .i64 3, .int .i64 n] 37)).cell? ⟨w.heap.size, 1, none⟩ = some (.int .i64 n) := by rw [cell_of_row _ _ _ _ _ (0, 0) (heap_alloc_new w _)]; rfl
    have c1' : (w.alloc (.cells #[.int .i64 3, .int .i64 n] 37)).cell? ⟨q, 1, none⟩ = some (.slice ao outs.length co) := (HA.out.cell (p := ⟨q, 1, none⟩) hql).trans c1
    have z1' : (w.alloc (.cells #[.int .i64 3, .int .i64 n] 37)).frozen? ⟨q, 1, none⟩ = false := (HA.out.frozen (p := ⟨q, 1, none⟩) hql).trans z1
    have D1 := Lib.hid d1
    have C1 := Lib.hid c1'
    have Z1 := Lib.hid z1'
    have HWB : Hid (Below (w.heap.size + 1) (w.alloc (.cells #[.int .i64 3, .int .i64 n] 37)) (w.alloc (.cells #[.int .i64 3, .int .i64 n] 37))) := Lib.hid (Below.refl _ _)
    clear d1 c1' z1'
    have hq1 : q < w.heap.size + 1 := by omega
    have hq2 : q < w.heap.size + 1 + 1 := by omega
    have hq3 : q < w.heap.size + 2 := by omega
    have hq4 : w.heap.size < w.heap.size + 2 := by omega
    go_region_law (first
      | (refine step_app rfl (.tmp 98) (.tmp 102) rfl (w.heap.size + 1) _ [] rfl ?_ _ _ outs rfl ?_ ?_ ?_ ?_ ?_; exact (row_here [] (by first | omega | (simp; done) | (simp; omega)) (by first | exact heap_new' _ _ (by simp) | exact heap_old' _ _ (by simp) (heap_new' _ _ (by simp)) | exact heap_old' _ _ (by simp) (heap_old' _ _ (by simp) (heap_new' _ _ (by simp)))) rfl (by first | omega | (simp; done) | (simp; omega))); exact (by first | exact HS.out | exact HS.out.alloc _ | exact HS.out.drew | exact (HS.out.alloc _).drew | exact ((HS.out.alloc _).alloc _) | exact ((HS.out.alloc _).alloc _).drew); exact (by first | omega | (simp; done) | (simp; omega)); exact (by first | omega | (simp; done) | (simp; omega)); exact (by first | omega | (simp; done) | (simp; omega)); intro v' w4 hown' hgrow; have HB4 := Lib.hid (grown_below (w0 := w.alloc (.cells #[.int .i64 3, .int .i64 n] 37)) (by first | exact HWB.out.alloc (by first | omega | (simp; done) | (simp; omega)) _ | exact (HWB.out.alloc (by first | omega | (simp; done) | (simp; omega)) _).drew | exact (HWB.out.alloc (by first | omega | (simp; done) | (simp; omega)) _).alloc (by first | omega | (simp; done) | (simp; omega)) _ | exact ((HWB.out.alloc (by first | omega | (simp; done) | (simp; omega)) _).alloc (by first | omega | (simp; done) | (simp; omega)) _).drew) hgrow (by first | omega | (simp; done) | (simp; omega)) (fun k hk => by cases hk; first | exact Nat.le_succ _ | exact Nat.le_refl _ | (simp; done) | (simp; omega))); have HG4 := Lib.hid hgrow; rw [List.length_nil, Nat.zero_add, List.nil_append] at hown'; have HO4 := Lib.hid hown'; clear hown' hgrow; have m1 := (HB4.out.cell (p := ⟨w.heap.size, 1, none⟩) (Nat.lt_succ_self _)).trans D1.out; have m2 := (HB4.out.cell (p := ⟨q, 1, none⟩) (Nat.lt_succ_of_lt hql)).trans C1.out; obtain ⟨a1, c1_, hv1, _⟩ := (ownI_of_row HO4.out).1.val; subst hv1)
      | (refine step_app rfl (.tmp 103) (.tmp 106) rfl (w.heap.size + 1) _ outs rfl ?_ _ _ [n] rfl ?_ ?_ ?_ ?_ ?_; exact (by first | exact HO4.out | exact HO4.out.alloc _ | exact HO4.out.drew | exact (HO4.out.alloc _).drew | exact ((HO4.out.alloc _).alloc _) | exact ((HO4.out.alloc _).alloc _).drew); exact one_slice _ _ n (by first | exact heap_new' _ _ (by simp) | exact (HG4.out.block _ (by simp) (by intro e; have := Option.some.inj e; first | omega | (simp at this))).trans (by first | exact heap_new' _ _ (by simp) | exact heap_old' _ _ (by simp) (heap_new' _ _ (by simp)) | exact heap_old' _ _ (by simp) (heap_old' _ _ (by simp) (heap_new' _ _ (by simp))))); exact (by first | omega | (simp; done) | (simp; omega)); exact (by first | omega | (simp; done) | (simp; omega)); exact (by have := HB4.out.size; simp at this ⊢; omega); intro v' w5 hown' hgrow; have HB5 := Lib.hid (grown_below (w0 := w.alloc (.cells #[.int .i64 3, .int .i64 n] 37)) (by first | exact HB4.out | exact HB4.out.alloc (by have := HB4.out.size; simp at this ⊢; omega) _ | exact (HB4.out.alloc (by have := HB4.out.size; simp at this ⊢; omega) _).drew) hgrow (by have := HB4.out.size; simp at this ⊢; omega) (fun k hk => (HO4.out.lt k hk).1)); have HO5 := Lib.hid hown'; clear hown' hgrow; have m3 := (HB5.out.cell (p := ⟨q, 1, none⟩) (Nat.lt_succ_of_lt hql)).trans C1.out; have m4 := (HB5.out.frozen (p := ⟨q, 1, none⟩) (Nat.lt_succ_of_lt hql)).trans Z1.out; obtain ⟨a2, c2_, hv2, _⟩ := (ownI_of_row (zs := outs ++ [n]) (by rw [List.length_append]; exact HO5.out)).1.val; subst hv2))
    all_goals
      go_wp2
      refine bodyPost_ret (v := .tuple #[.int .i64 0, .int .i64 0]) (by simp [results, Try.results17, go_sem]) rfl ?_
      exact ⟨rfl, ref_end false HR.out HF.out.1 HF.out.2.1 HF.out.2.2.1 HF.out.2.2.2.1 HF.out.2.2.2.2.1 HF.out.2.2.2.2.2 (l' := outs ++ [n]) (by have := row_mono HO5.out (Nat.le_succ w.heap.size); simpa using this) (HA.out.trans (HB5.out.mono (Nat.le_succ _)))⟩
end Go.Proofs.Ythbeillgpnffmaa
