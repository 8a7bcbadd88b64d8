/- The indices that are kept, and the normal form. -/
import Derived.Test.YtkfmhmkeikhdbaaDoorKc
namespace Go.Proofs.YtkfmhmkeikhdbaaDoor
open Go.Proofs.YtkfmhmkeikhdbaaDoor.Pv Go.RowKit
set_option maxRecDepth 100000
set_option maxHeartbeats 4000000
set_option linter.unusedSimpArgs false
set_option linter.unusedVariables false
def lbl (l : List Ins) (p : Nat) : Ins × Int := (l.getD p ⟨0, 0, 0, 0, 0⟩, if tb (l.getD p ⟨0, 0, 0, 0, 0⟩).k = true then (p : Int) else -1)
theorem inI_tb (x : Ins) : tb (inI x).k = tb x.k := by
  show tb (invO x.k) = tb x.k
  unfold tb
  rw [inv_tg]
theorem lc_lbl (l : List Ins) (p q : Nat) : lc (lbl l p) (lbl l q) = can (l.getD p ⟨0, 0, 0, 0, 0⟩) (l.getD q ⟨0, 0, 0, 0, 0⟩) := by
  unfold lc lbl
  by_cases h : can (l.getD p ⟨0, 0, 0, 0, 0⟩) (l.getD q ⟨0, 0, 0, 0, 0⟩) = true
  · have h2 := can_iff.1 h
    have h3 : tb (l.getD q ⟨0, 0, 0, 0, 0⟩).k = false := by rw [h2.2.2.2.2.2, inI_tb]; exact h2.1
    simp only [h2.1, h3]
    simp
  · have h' : can (l.getD p ⟨0, 0, 0, 0, 0⟩) (l.getD q ⟨0, 0, 0, 0, 0⟩) = false := by simpa using h
    simp only [h', Bool.false_and]
theorem kst_psh (l : List Ins) (k : List Nat) (i : Nat) : psh lc (k.map (lbl l)).reverse (lbl l i) = ((kst l k i).map (lbl l)).reverse := by
  rcases List.eq_nil_or_concat k with rfl | ⟨k0, p, rfl⟩
  · rfl
  · unfold kst
    rw [List.concat_eq_append, List.getLast?_append]
    simp only [List.getLast?_singleton, Option.some_or, List.map_append, List.map_cons, List.map_nil, List.reverse_append, List.reverse_cons, List.reverse_nil, List.nil_append, List.singleton_append, psh]
    rw [lc_lbl]
    by_cases h : can (l.getD p ⟨0, 0, 0, 0, 0⟩) (l.getD i ⟨0, 0, 0, 0, 0⟩) = true
    · rw [if_pos h, if_pos h]; simp
    · rw [if_neg h, if_neg h]; simp
theorem lw_lbl (l : List Ins) {i : Nat} (hi : i < l.length) : (lw l)[i]? = some (lbl l i) := by
  rw [lw_at, List.getElem?_eq_getElem hi]
  unfold lbl
  rw [List.getD_eq_getElem?_getD, List.getElem?_eq_getElem hi]
  rfl
theorem kps_run (l : List Ins) : ∀ i, i ≤ l.length → ((lw l).take i).foldl (psh lc) [] = ((kps l i).map (lbl l)).reverse
  | 0, _ => by simp [kps]
  | i + 1, h => by
    rw [List.take_add_one, lw_lbl l (by omega), List.foldl_append, kps_run l i (by omega)]
    exact kst_psh l (kps l i) i
theorem kps_red (l : List Ins) : (kps l l.length).map (lbl l) = red lc (lw l) := by
  have := kps_run l l.length (Nat.le_refl _)
  rw [List.take_of_length_le (by rw [lw_len]; omega)] at this
  unfold red
  rw [this, List.reverse_reverse]
theorem kst_pw {l : List Ins} {k : List Nat} {i : Nat} (h : ∀ p ∈ k, p < i) (hp : k.Pairwise (· < ·)) : (kst l k i).Pairwise (· < ·) := by
  unfold kst
  split
  · split
    · exact hp.sublist (List.dropLast_sublist k)
    · exact List.pairwise_append.2 ⟨hp, by simp, fun a ha b hb => by simp at hb; subst hb; exact h a ha⟩
  · simp
theorem kps_pw (l : List Ins) : ∀ i, (kps l i).Pairwise (· < ·)
  | 0 => List.Pairwise.nil
  | i + 1 => kst_pw (kps_lt l i) (kps_pw l i)
theorem pw_inj {k : List Nat} (h : k.Pairwise (· < ·)) {i j p : Nat} (hi : k[i]? = some p) (hj : k[j]? = some p) : i = j := by
  obtain ⟨a, ha⟩ := List.getElem?_eq_some_iff.1 hi
  obtain ⟨b, hb⟩ := List.getElem?_eq_some_iff.1 hj
  have hw := List.pairwise_iff_getElem.1 h
  rcases Nat.lt_trichotomy i j with c | c | c
  · have := hw i j a b c; omega
  · exact c
  · have := hw j i b a c; omega
/-- the index after i rounds -/
def ixs (k : List Nat) (n : Nat) : Nat → List Int
  | 0 => List.replicate n 0
  | i + 1 => (ixs k n i).set (k.getD i 0) (i : Int)
theorem ixs_len (k : List Nat) (n : Nat) : ∀ i, (ixs k n i).length = n
  | 0 => by simp [ixs]
  | i + 1 => by unfold ixs; rw [List.length_set]; exact ixs_len k n i
theorem ixs_at {k : List Nat} {n : Nat} (h : k.Pairwise (· < ·)) (hl : ∀ p ∈ k, p < n) : ∀ i, i ≤ k.length → ∀ j p, j < i → k[j]? = some p → (ixs k n i)[p]? = some (j : Int)
  | 0, _, j, p, hj, _ => by omega
  | i + 1, hi, j, p, hj, hp => by
    obtain ⟨q, hq⟩ : ∃ q, k[i]? = some q := ⟨_, List.getElem?_eq_getElem (by omega)⟩
    have hpn := hl p (List.mem_of_getElem? hp)
    unfold ixs
    rw [List.getD_eq_getElem?_getD, hq]
    show ((ixs k n i).set q (i : Int))[p]? = _
    rw [List.getElem?_set]
    by_cases e : j = i
    · subst e
      rw [hq] at hp
      obtain rfl := Option.some.inj hp
      rw [if_pos rfl, if_pos (by rw [ixs_len]; exact hpn)]
    · have hne : q ≠ p := fun c => e (pw_inj h hp (c ▸ hq))
      rw [if_neg hne]
      exact ixs_at h hl i (by omega) j p (by omega) hp
/-- a list filled from the left -/
def fil (o : List Ins) (i : Nat) : List Ins := o.take i ++ List.replicate (o.length - i) ⟨0, 0, 0, 0, 0⟩
theorem fil_zero (o : List Ins) : fil o 0 = List.replicate o.length ⟨0, 0, 0, 0, 0⟩ := by simp [fil]
theorem fil_all (o : List Ins) : fil o o.length = o := by simp [fil]
theorem fil_len (o : List Ins) (i : Nat) (h : i ≤ o.length) : (fil o i).length = o.length := by simp [fil]; omega
theorem fil_set {o : List Ins} {i : Nat} {y : Ins} (h : o[i]? = some y) : (fil o i).set i y = fil o (i + 1) := by
  have hi := (List.getElem?_eq_some_iff.1 h).1
  have e : o.length - i = (o.length - (i + 1)) + 1 := by omega
  unfold fil
  rw [e, List.replicate_succ, List.set_append_right _ _ (by simp; omega)]
  rw [List.length_take, Nat.min_eq_left (by omega), Nat.sub_self, List.set_cons_zero, List.take_add_one, h]
  simp
/-- what is written at a place -/
theorem opt_at {l : List Ins} (hd : Wd l) (hf : WF l) (hn : l.length ≤ 65536) {i p : Nat} {x : Ins} (hi : (kps l l.length)[i]? = some p) (hx : l[p]? = some x) :
    (opt l)[i]? = some (rtI x (pos (red lc (lw l)) (tgt x))) ∧ (tb x.k = true → ∃ t : Nat, tgt x = t ∧ (ixs (kps l l.length) l.length (kps l l.length).length)[t]? = some ((pos (red lc (lw l)) (tgt x) : Nat) : Int)) := by
  have hr := kps_red l
  have hl : lbl l p = (x, if tb x.k = true then (p : Int) else -1) := by
    unfold lbl; rw [List.getD_eq_getElem?_getD, hx]; rfl
  have hw : (red lc (lw l))[i]? = some (lbl l p) := by rw [← hr, List.getElem?_map, hi]; rfl
  have hcw := (red_all hd hf hn).1
  refine ⟨?_, fun ht => ?_⟩
  · unfold opt
    rw [outp_at hw, hl]
  · have hm : lbl l p ∈ red lc (lw l) := List.mem_of_getElem? hw
    have h2 := hcw.tin _ hm (by rw [hl]; exact ht)
    rw [hl] at h2
    obtain ⟨h0, q, hq, e⟩ := h2
    have hlt : pos (red lc (lw l)) (tgt x) < (red lc (lw l)).length := List.findIdx_lt_length_of_exists ⟨q, hq, by simpa using e⟩
    have hg := List.findIdx_getElem (w := hlt)
    have hlen : (red lc (lw l)).length = (kps l l.length).length := by rw [← hr, List.length_map]
    obtain ⟨j, hj⟩ : ∃ j, pos (red lc (lw l)) (tgt x) = j := ⟨_, rfl⟩
    have hj' : (red lc (lw l)).findIdx (fun p => p.2 == tgt x) = j := hj
    have hlt' : j < (kps l l.length).length := by rw [← hlen, ← hj]; exact hlt
    obtain ⟨r, hk⟩ : ∃ r, (kps l l.length)[j]? = some r := ⟨_, List.getElem?_eq_getElem hlt'⟩
    have hwj : (red lc (lw l))[j]? = some (lbl l r) := by rw [← hr, List.getElem?_map, hk]; rfl
    have hg2 : (lbl l r).2 = tgt x := by
      have h3 : (red lc (lw l))[(red lc (lw l)).findIdx (fun p => p.2 == tgt x)]? = some (lbl l r) := by rw [hj']; exact hwj
      have h4 := Option.some.inj ((List.getElem?_eq_getElem hlt).symm.trans h3)
      have h5 : ((red lc (lw l))[(red lc (lw l)).findIdx (fun p => p.2 == tgt x)]'hlt).2 = tgt x := by simpa using hg
      rw [← h4]; exact h5
    have hr' : ((r : Nat) : Int) = tgt x := by
      unfold lbl at hg2
      simp only at hg2
      split at hg2
      · exact hg2
      · exact absurd (show (0 : Int) ≤ tgt x from h0) (by omega)
    refine ⟨r, hr'.symm, ?_⟩
    rw [hj]
    exact ixs_at (kps_pw l l.length) (fun p hp => kps_lt l l.length p hp) _ (Nat.le_refl _) j r (by omega) hk
end Go.Proofs.YtkfmhmkeikhdbaaDoor
