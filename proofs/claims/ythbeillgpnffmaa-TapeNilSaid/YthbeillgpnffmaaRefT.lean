/- The reference's tape: all operations. -/
import Derived.Test.YthbeillgpnffmaaRows
import Derived.WalkKit
import Derived.ProofKit
import Derived.OpenShut
import Derived.Below
import Derived.Lib.Hide
import Derived.WalkSpells
import Derived.WalkLawsBesides
import Derived.Outline
import Derived.WalkSmall
import Derived.IntWalk
import Derived.Deep.OwnRows
import Derived.Deep.QuietTactic
import Derived.BigQuiet
import Derived.Test.YthbeillgpnffmaaRefT3
import Derived.Deep.Cut
namespace Go.Proofs.Ythbeillgpnffmaa
open Go.ChangeShapes Go.WideShapes Go.ChangeAt Go.RowKit
set_option linter.unusedSimpArgs false
set_option linter.unusedVariables false

set_option maxRecDepth 100000 in
set_option maxHeartbeats 2000000 in
theorem refDo4 (G : Nat → Prop) (q : Nat) (k n : Int) (ins outs : List Int) (w : World) (h : RTape w G q ins outs) (hk1 : ¬ k = 1) (hk2 : ¬ k = 2) (hk3 : ¬ k = 3) (h1 : ins.length ≤ 60000) (h2 : outs.length ≤ 60000) :
    Calls Try.prog 17 #[.pointer (some ⟨q, 0, none⟩), .agg #[.int .i64 k, .int .i64 n]] w fun e w' => e = .returned (.tuple #[.int .i64 (stepT 4 n ins outs).2.2.1, .int .i64 (stepT 4 n ins outs).2.2.2]) ∧ RPost G w q (stepT 4 n ins outs).1 (stepT 4 n ins outs).2.1 w' := by
  have H := Lib.hid h
  obtain ⟨ai, ao, ci, co, hr, hci, hco, f1, f2, f3, f4⟩ := h
  have c0 : w.cell? ⟨q, 0, none⟩ = some (.slice ai ins.length ci) := by rw [cell_of_row w q 0 _ _ _ hr.1]; rfl
  have c1 : w.cell? ⟨q, 1, none⟩ = some (.slice ao outs.length co) := by rw [cell_of_row w q 1 _ _ _ hr.1]; rfl
  have z0 := frozen_of_row w q 0 _ _ hr.1
  have z1 := frozen_of_row w q 1 _ _ hr.1
  have HR := Lib.hid hr
  have HF := Lib.hid (And.intro hci (And.intro hco (And.intro f1 (And.intro f2 (And.intro f3 f4)))))
  have hql := f4 q f1
  have HA : Hid (Below w.heap.size w (w.alloc (.cells #[.int .i64 k, .int .i64 n] 37))) := Lib.hid ((Below.refl _ _).alloc (Nat.le_refl _) _)
  clear hr f1 f2 f3 f4
  have n1 : (k == 1) = false := by simpa using hk1
  have n2 : (k == 2) = false := by simpa using hk2
  have n3 : (k == 3) = false := by simpa using hk3
  rcases List.eq_nil_or_concat outs with rfl | ⟨zs, z, rfl⟩
  · go_enter Try.func17, Try.ntmps17
    go_wp2
    refine bodyPost_ret (v := .tuple #[.int .i64 0, .int .i64 17]) (by simp [results, Try.results17, go_sem]) rfl ?_
    exact ⟨rfl, RPost.same H.out HA.out⟩
  · rw [List.concat_eq_append] at *
    have hst : stepT 4 n ins (zs ++ [z]) = (ins, zs, z, 0) := by
      unfold stepT
      rw [if_neg (by decide), if_neg (by decide), if_neg (by decide)]
      simp
    rw [hst]
    obtain ⟨b, o, rfl, hb, hat⟩ := HR.out.2.2.at (by simp)
    have cz : w.cell? ⟨b, o + zs.length, none⟩ = some (.int .i64 z) := hat zs.length z (by simp)
    have hst2 : SliceI w (some ⟨b, o, none⟩) zs := fun hz => ⟨b, o, rfl, hb, fun i x hi => hat i x (by rw [List.getElem?_append_left (List.getElem?_eq_some_iff.1 hi).1]; exact hi)⟩
    have HS := Lib.hid (hst2.below HA.out)
    clear hat hst2
    rw [List.length_append, List.length_singleton] at c1 h2
    have hco2 : zs.length + 1 ≤ co := by have := HF.out.2.1; rw [List.length_append, List.length_singleton] at this; exact this
    have hc2 : (zs.length : Int) ≤ (co : Int) := by omega
    have hc3 : zs.length ≤ co := by omega
    have hw1 : IntKind.i64.wrap ((zs.length : Int) + 1 - 1) = (zs.length : Int) := by rw [IntWalk.i64_in _ (by omega)]; omega
    have hw2 : ((zs.length : Int) + 1 - 1) = (zs.length : Int) := by omega
    have hw3 : (zs.length : Int) < (zs.length : Int) + 1 := by omega
    have hw4 : ((zs.length : Int) + 1 == 0) = false := by simp; omega
    have hw5 : IntKind.i64.wrap (zs.length : Int) = (zs.length : Int) := IntWalk.i64_in _ (by omega)
    go_enter Try.func17, Try.ntmps17
    go_upto_region 4 with fail
    go_quiet (fail)
    go_upto_region 5 with fail
    go_region_law (go_loud (refine step_app rfl (.tmp 29) (.tmp 40) rfl w.heap.size _ [] rfl ?_ _ _ zs rfl ?_ ?_ ?_ ?_ ?_; exact (row_here [] (by first | omega | (simp; done) | (simp; omega)) (by first | exact heap_new' _ _ (by simp) | exact heap_old' _ _ (by simp) (heap_new' _ _ (by simp)) | exact heap_old' _ _ (by simp) (heap_old' _ _ (by simp) (heap_new' _ _ (by simp)))) rfl (by first | omega | (simp; done) | (simp; omega))); exact (by first | exact (HS.out.drewN (nq + 1)) | exact (HS.out.drewN (nq + 1)).alloc _ | exact (HS.out.drewN (nq + 1)).drew | exact ((HS.out.drewN (nq + 1)).alloc _).drew | exact (((HS.out.drewN (nq + 1)).alloc _).alloc _) | exact (((HS.out.drewN (nq + 1)).alloc _).alloc _).drew); exact (by first | omega | (simp; done) | (simp; omega)); exact (by first | omega | (simp; done) | (simp; omega)); exact (by first | omega | (simp; done) | (simp; omega)); intro v' w4 hown' hgrow; have HB4 := Lib.hid (grown_below (w0 := w) (by first | exact (below_drewN HA.out (nq + 1)).alloc (by first | omega | (simp; done) | (simp; omega)) _ | exact ((below_drewN HA.out (nq + 1)).alloc (by first | omega | (simp; done) | (simp; omega)) _).drew | exact ((below_drewN HA.out (nq + 1)).alloc (by first | omega | (simp; done) | (simp; omega)) _).alloc (by first | omega | (simp; done) | (simp; omega)) _ | exact (((below_drewN HA.out (nq + 1)).alloc (by first | omega | (simp; done) | (simp; omega)) _).alloc (by first | omega | (simp; done) | (simp; omega)) _).drew) hgrow (by first | omega | (simp; done) | (simp; omega)) (fun k hk => by cases hk; first | exact Nat.le_succ _ | exact Nat.le_refl _ | (simp; done) | (simp; omega))); have HO4 := Lib.hid hown'; clear hown' hgrow; have d0 := (HB4.out.cell (p := ⟨q, 1, none⟩) hql).trans c1; have e0 := (HB4.out.frozen (p := ⟨q, 1, none⟩) hql).trans z1; obtain ⟨a', c', hv', _⟩ := (ownI_of_row (zs := [] ++ zs) (by rw [List.length_append]; exact HO4.out)).1.val; subst hv'))
    all_goals
      go_wp2
      refine bodyPost_ret (v := .tuple #[.int .i64 z, .int .i64 0]) (by simp [results, Try.results17, go_sem]) rfl ?_
      exact ⟨rfl, ref_end false HR.out HF.out.1 HF.out.2.1 HF.out.2.2.1 HF.out.2.2.2.1 HF.out.2.2.2.2.1 HF.out.2.2.2.2.2 (l' := zs) (by have := HO4.out; rw [← List.length_append] at this; exact this) HB4.out⟩
set_option maxRecDepth 100000 in
set_option maxHeartbeats 2000000 in
theorem refDo_any (G : Nat → Prop) (q : Nat) (k n : Int) (ins outs : List Int) (w : World) (h : RTape w G q ins outs) (h1 : ins.length ≤ 60000) (h2 : outs.length ≤ 60000) :
    Calls Try.prog 17 #[.pointer (some ⟨q, 0, none⟩), .agg #[.int .i64 k, .int .i64 n]] w fun e w' => e = .returned (.tuple #[.int .i64 (stepT k n ins outs).2.2.1, .int .i64 (stepT k n ins outs).2.2.2]) ∧ RPost G w q (stepT k n ins outs).1 (stepT k n ins outs).2.1 w' := by
  have H := Lib.hid h
  obtain ⟨ai, ao, ci, co, hr, hci, hco, f1, f2, f3, f4⟩ := h
  have c0 : w.cell? ⟨q, 0, none⟩ = some (.slice ai ins.length ci) := by rw [cell_of_row w q 0 _ _ _ hr.1]; rfl
  have c1 : w.cell? ⟨q, 1, none⟩ = some (.slice ao outs.length co) := by rw [cell_of_row w q 1 _ _ _ hr.1]; rfl
  have z0 := frozen_of_row w q 0 _ _ hr.1
  have z1 := frozen_of_row w q 1 _ _ hr.1
  have HR := Lib.hid hr
  have HF := Lib.hid (And.intro hci (And.intro hco (And.intro f1 (And.intro f2 (And.intro f3 f4)))))
  have hql := f4 q f1
  have HA : Hid (Below w.heap.size w (w.alloc (.cells #[.int .i64 k, .int .i64 n] 37))) := Lib.hid ((Below.refl _ _).alloc (Nat.le_refl _) _)
  clear hr f1 f2 f3 f4
  by_cases hk1 : k = 1
  · subst hk1
    cases ins with
    | nil =>
      go_enter Try.func17, Try.ntmps17
      go_wp2
      refine bodyPost_ret (v := .tuple #[.int .i64 0, .int .i64 17]) (by simp [results, Try.results17, go_sem]) rfl ?_
      exact ⟨rfl, RPost.same H.out HA.out⟩
    | cons z zs =>
      obtain ⟨b, o, rfl, hb, hat⟩ := HR.out.2.1.at (by simp)
      have cz : w.cell? ⟨b, o, none⟩ = some (.int .i64 z) := hat 0 z rfl
      have hst : SliceI w (some ⟨b, o + 1, none⟩) zs := fun hz => ⟨b, o + 1, rfl, hb, fun i x hi => by rw [show o + 1 + i = o + (i + 1) by omega]; exact hat (i + 1) x (by simpa using hi)⟩
      have HS := Lib.hid (hst.below HA.out)
      clear hat hst
      have hci1 : (1 : Int) ≤ (ci : Int) := by have := HF.out.1; simp at this; omega
      have hzl : (1 : Int) ≤ (zs.length : Int) + 1 := by omega
      simp only [List.length_cons] at h1 c0
      by_cases hc1 : ci = 1
      · subst hc1
        obtain rfl : zs = [] := List.length_eq_zero_iff.1 (by have := HF.out.1; rw [List.length_cons] at this; omega)
        go_enter Try.func17, Try.ntmps17
        go_wp2_with (at_builtin; go_loud (refine wpList_app rfl _ _ rfl w.heap.size _ [] rfl ?_ _ _ [] rfl ?_ ?_ ?_ ?_ ?_; exact (row_here [] (by first | omega | (simp; done) | (simp; omega)) (by first | exact heap_new' _ _ (by simp) | exact heap_old' _ _ (by simp) (heap_new' _ _ (by simp)) | exact heap_old' _ _ (by simp) (heap_old' _ _ (by simp) (heap_new' _ _ (by simp)))) rfl (by first | omega | (simp; done) | (simp; omega))); exact (fun e => absurd rfl e); exact (by first | omega | (simp; done) | (simp; omega)); exact (by first | omega | (simp; done) | (simp; omega)); exact (by first | omega | (simp; done) | (simp; omega)); intro v' w4 hown' hgrow; have HB4 := Lib.hid (grown_below (w0 := w) (by first | exact HA.out.alloc (by first | omega | (simp; done) | (simp; omega)) _ | exact (HA.out.alloc (by first | omega | (simp; done) | (simp; omega)) _).drew | exact (HA.out.alloc (by first | omega | (simp; done) | (simp; omega)) _).alloc (by first | omega | (simp; done) | (simp; omega)) _ | exact ((HA.out.alloc (by first | omega | (simp; done) | (simp; omega)) _).alloc (by first | omega | (simp; done) | (simp; omega)) _).drew) hgrow (by first | omega | (simp; done) | (simp; omega)) (fun k hk => by cases hk; first | exact Nat.le_succ _ | exact Nat.le_refl _ | (simp; done) | (simp; omega))); have HO4 := Lib.hid hown'; clear hown' hgrow; have d0 := (HB4.out.cell (p := ⟨q, 0, none⟩) hql).trans c0; have e0 := (HB4.out.frozen (p := ⟨q, 0, none⟩) hql).trans z0; obtain ⟨a', c', hv', _⟩ := (ownI_of_row (zs := [] ++ []) (by rw [List.length_append]; exact HO4.out)).1.val; subst hv'))
        refine bodyPost_ret (v := .tuple #[.int .i64 z, .int .i64 0]) (by simp [results, Try.results17, go_sem]) rfl ?_
        exact ⟨rfl, ref_end true HR.out HF.out.1 HF.out.2.1 HF.out.2.2.1 HF.out.2.2.2.1 HF.out.2.2.2.2.1 HF.out.2.2.2.2.2 (l' := []) HO4.out HB4.out⟩
      · go_enter Try.func17, Try.ntmps17
        go_wp2_with (at_builtin; go_loud (refine wpList_app rfl _ _ rfl w.heap.size _ [] rfl ?_ _ _ zs rfl ?_ ?_ ?_ ?_ ?_; exact (row_here [] (by first | omega | (simp; done) | (simp; omega)) (by first | exact heap_new' _ _ (by simp) | exact heap_old' _ _ (by simp) (heap_new' _ _ (by simp)) | exact heap_old' _ _ (by simp) (heap_old' _ _ (by simp) (heap_new' _ _ (by simp)))) rfl (by first | omega | (simp; done) | (simp; omega))); exact (by first | exact HS.out | exact HS.out.alloc _ | exact HS.out.drew | exact (HS.out.alloc _).drew | exact ((HS.out.alloc _).alloc _) | exact ((HS.out.alloc _).alloc _).drew); exact (by first | omega | (simp; done) | (simp; omega)); exact (by first | omega | (simp; done) | (simp; omega)); exact (by first | omega | (simp; done) | (simp; omega)); intro v' w4 hown' hgrow; have HB4 := Lib.hid (grown_below (w0 := w) (by first | exact HA.out.alloc (by first | omega | (simp; done) | (simp; omega)) _ | exact (HA.out.alloc (by first | omega | (simp; done) | (simp; omega)) _).drew | exact (HA.out.alloc (by first | omega | (simp; done) | (simp; omega)) _).alloc (by first | omega | (simp; done) | (simp; omega)) _ | exact ((HA.out.alloc (by first | omega | (simp; done) | (simp; omega)) _).alloc (by first | omega | (simp; done) | (simp; omega)) _).drew) hgrow (by first | omega | (simp; done) | (simp; omega)) (fun k hk => by cases hk; first | exact Nat.le_succ _ | exact Nat.le_refl _ | (simp; done) | (simp; omega))); have HO4 := Lib.hid hown'; clear hown' hgrow; have d0 := (HB4.out.cell (p := ⟨q, 0, none⟩) hql).trans c0; have e0 := (HB4.out.frozen (p := ⟨q, 0, none⟩) hql).trans z0; obtain ⟨a', c', hv', _⟩ := (ownI_of_row (zs := [] ++ zs) (by rw [List.length_append]; exact HO4.out)).1.val; subst hv'))
        refine bodyPost_ret (v := .tuple #[.int .i64 z, .int .i64 0]) (by simp [results, Try.results17, go_sem]) rfl ?_
        exact ⟨rfl, ref_end true HR.out HF.out.1 HF.out.2.1 HF.out.2.2.1 HF.out.2.2.2.1 HF.out.2.2.2.2.1 HF.out.2.2.2.2.2 (l' := zs) (by have := HO4.out; rw [List.length_nil, Nat.zero_add, List.nil_append] at this; exact this) HB4.out⟩
  by_cases hk2 : k = 2
  · subst hk2
    by_cases hf : 4096 ≤ ins.length
    · have hst : stepT 2 n ins outs = (ins, outs, 0, 5) := by unfold stepT; rw [if_neg (by decide), if_pos rfl, if_pos hf]
      have hd : decide ((4096 : Int) ≤ (ins.length : Int)) = true := by simp; omega
      have hd2 : (4096 : Int) ≤ (ins.length : Int) := by omega
      rw [hst]
      go_enter Try.func17, Try.ntmps17
      go_wp2
      refine bodyPost_ret (v := .tuple #[.int .i64 0, .int .i64 5]) (by simp [results, Try.results17, go_sem]) rfl ?_
      exact ⟨rfl, RPost.same H.out HA.out⟩
    · have hst : stepT 2 n ins outs = (n :: ins, outs, 0, 0) := by unfold stepT; rw [if_neg (by decide), if_pos rfl, if_neg hf]
      have hd : decide ((4096 : Int) ≤ (ins.length : Int)) = false := by simp; omega
      have hd2 : ¬ (4096 : Int) ≤ (ins.length : Int) := by omega
      rw [hst]
      have HS := Lib.hid (HR.out.2.1.below HA.out)
      go_enter Try.func17, Try.ntmps17
      go_upto_region 16 with fail
      go_region_law (go_loud (refine step_app rfl (.tmp 81) (.tmp 85) rfl w.heap.size _ [n] rfl ?_ _ _ ins rfl ?_ ?_ ?_ ?_ ?_; exact (row_here [n] (by first | omega | (simp; done) | (simp; omega)) (by first | exact heap_new' _ _ (by simp) | exact heap_old' _ _ (by simp) (heap_new' _ _ (by simp)) | exact heap_old' _ _ (by simp) (heap_old' _ _ (by simp) (heap_new' _ _ (by simp)))) rfl (by first | omega | (simp; done) | (simp; omega))); exact (by first | exact HS.out | exact HS.out.alloc _ | exact HS.out.drew | exact (HS.out.alloc _).drew | exact ((HS.out.alloc _).alloc _) | exact ((HS.out.alloc _).alloc _).drew); exact (by first | omega | (simp; done) | (simp; omega)); exact (by first | omega | (simp; done) | (simp; omega)); exact (by first | omega | (simp; done) | (simp; omega)); intro v' w4 hown' hgrow; have HB4 := Lib.hid (grown_below (w0 := w) (by first | exact HA.out.alloc (by first | omega | (simp; done) | (simp; omega)) _ | exact (HA.out.alloc (by first | omega | (simp; done) | (simp; omega)) _).drew | exact (HA.out.alloc (by first | omega | (simp; done) | (simp; omega)) _).alloc (by first | omega | (simp; done) | (simp; omega)) _ | exact ((HA.out.alloc (by first | omega | (simp; done) | (simp; omega)) _).alloc (by first | omega | (simp; done) | (simp; omega)) _).drew) hgrow (by first | omega | (simp; done) | (simp; omega)) (fun k hk => by cases hk; first | exact Nat.le_succ _ | exact Nat.le_refl _ | (simp; done) | (simp; omega))); have HO4 := Lib.hid hown'; clear hown' hgrow; have d0 := (HB4.out.cell (p := ⟨q, 0, none⟩) hql).trans c0; have e0 := (HB4.out.frozen (p := ⟨q, 0, none⟩) hql).trans z0; obtain ⟨a', c', hv', _⟩ := (ownI_of_row (zs := [n] ++ ins) (by rw [List.length_append]; exact HO4.out)).1.val; subst hv'))
      all_goals
        go_wp2
        refine bodyPost_ret (v := .tuple #[.int .i64 0, .int .i64 0]) (by simp [results, Try.results17, go_sem]) rfl ?_
        exact ⟨rfl, ref_end true HR.out HF.out.1 HF.out.2.1 HF.out.2.2.1 HF.out.2.2.2.1 HF.out.2.2.2.2.1 HF.out.2.2.2.2.2 (l' := n :: ins) (by have := HO4.out; rw [← List.length_append] at this; exact this) HB4.out⟩
  by_cases hk3 : k = 3
  · subst hk3
    exact refDo3 G q n ins outs w H.out h1 h2
  have hst : stepT k n ins outs = stepT 4 n ins outs := by
    unfold stepT
    rw [if_neg hk1, if_neg hk2, if_neg hk3, if_neg (by decide), if_neg (by decide), if_neg (by decide)]
  rw [hst]
  exact refDo4 G q k n ins outs w H.out hk1 hk2 hk3 h1 h2
end Go.Proofs.Ythbeillgpnffmaa
