/- To optimize the inverse is to invert what is left: the theory. -/
import Derived.Test.YtkfmhmkeikhdbaaDoorKg
namespace Go.Proofs.YtkfmhmkeikhdbaaDoor
open Go.Proofs.YtkfmhmkeikhdbaaDoor.Pv Go.RowKit
set_option maxRecDepth 100000
set_option maxHeartbeats 4000000
set_option linter.unusedSimpArgs false
set_option linter.unusedVariables false
def psi (l : List Ins) (p : Ins × Int) : Ins × Int := (invI l p.1, if p.2 = -1 then -1 else (l.length : Int) - 1 - p.2)
theorem lw_inv (l : List Ins) : lw (invL l) = ((lw l).map (psi l)).reverse := by
  have hl : (lw l).length = l.length := lw_len l
  apply List.ext_getElem?
  intro q
  by_cases hq : q < l.length
  · obtain ⟨x, hx⟩ : ∃ x, l[l.length - 1 - q]? = some x := ⟨_, List.getElem?_eq_getElem (by omega)⟩
    have hi := invL_at hx
    rw [show l.length - 1 - (l.length - 1 - q) = q by omega] at hi
    rw [List.getElem?_reverse (by rw [List.length_map, hl]; exact hq), List.length_map, hl, List.getElem?_map, lw_at, lw_at, hx, hi]
    have ht : tb (invI l x).k = tb x.k := inv_tb x.k
    simp only [Option.map_some, psi, ht]
    cases tb x.k with
    | false => simp
    | true =>
      have : ¬ (((l.length - 1 - q : Nat) : Int) = -1) := by omega
      simp only [if_true, if_neg this]
      congr 2
      omega
  · rw [List.getElem?_eq_none (by rw [lw_len, invL_len]; omega), List.getElem?_eq_none (by rw [List.length_reverse, List.length_map, hl]; omega)]
theorem invI_no (l : List Ins) {x : Ins} (h : tb x.k = false) : invI l x = inI x := by
  unfold invI inI
  rw [rta_no h, rtb_no h]
theorem psi_lc {l : List Ins} {a b : Ins × Int} (h : lc a b = true) : lc (psi l b) (psi l a) = true := by
  obtain ⟨hc, ha, hb⟩ := lc_iff.1 h
  have h2 := can_iff.1 hc
  have hbt : tb b.1.k = false := by rw [h2.2.2.2.2.2, inI_tb]; exact h2.1
  refine lc_iff.2 ⟨?_, ?_, ?_⟩
  · show can (invI l b.1) (invI l a.1) = true
    rw [invI_no l hbt, invI_no l h2.1, h2.2.2.2.2.2, inI_two, ← h2.2.2.2.2.2]
    exact hc
  · show (if b.2 = -1 then (-1 : Int) else _) = -1
    exact if_pos hb
  · show (if a.2 = -1 then (-1 : Int) else _) = -1
    exact if_pos ha
theorem psi_back {l : List Ins} (hw : Cw (lw l)) {a b : Ins × Int} (ha : a ∈ lw l) (hb : b ∈ lw l) (h : lc (psi l b) (psi l a) = true) : lc a b = true := by
  obtain ⟨hc, _, _⟩ := lc_iff.1 h
  have h2 := can_iff.1 hc
  have hbt : tb b.1.k = false := (inv_tb b.1.k).symm.trans h2.1
  have e0 : invI l a.1 = inI (invI l b.1) := h2.2.2.2.2.2
  have hat : tb a.1.k = false := by
    have e1 : tb (invI l a.1).k = tb a.1.k := inv_tb a.1.k
    rw [← e1, e0, inI_tb]
    exact h2.1
  rw [invI_no l hbt, invI_no l hat, inI_two] at e0
  have e2 : a.1 = inI b.1 := by rw [← e0, inI_two]
  refine lc_iff.2 ⟨?_, hw.no a ha hat, hw.no b hb hbt⟩
  have hc' : can (invI l b.1) (invI l a.1) = true := hc
  rw [invI_no l hbt, invI_no l hat, ← e2, e0] at hc'
  exact hc'
theorem red_inv {l : List Ins} (hd : Wd l) : red lc (lw (invL l)) = ((red lc (lw l)).map (psi l)).reverse := by
  rw [lw_inv]
  exact red_rev lc_back (psi l) (lw l) (fun a b h => psi_lc h) (fun a b ha hb h => psi_back (lw_cw hd) ha hb h)
theorem pos_is {w : List (Ins × Int)} {j : Nat} {p : Ins × Int} {t : Int} (hp : w[j]? = some p) (ht : p.2 = t) (hu : ∀ (i : Nat) q, w[i]? = some q → q.2 = t → i = j) : pos w t = j := by
  have hlt : pos w t < w.length := List.findIdx_lt_length_of_exists ⟨p, List.mem_of_getElem? hp, by simpa using ht⟩
  have hg := List.findIdx_getElem (w := hlt)
  exact hu _ _ (List.getElem?_eq_getElem hlt) (beq_iff_eq.1 hg)
/-- a place of the code is the label of one letter at most -/
theorem lab_one {l : List Ins} {i j : Nat} {p q : Ins × Int} {t : Int} (h0 : 0 ≤ t) (hp : (red lc (lw l))[i]? = some p) (hq : (red lc (lw l))[j]? = some q) (e : p.2 = t) (e' : q.2 = t) : i = j := by
  rw [← kps_red, List.getElem?_map] at hp hq
  obtain ⟨r, hr, rfl⟩ := Option.map_eq_some_iff.1 hp
  obtain ⟨r', hr', rfl⟩ := Option.map_eq_some_iff.1 hq
  have key : ∀ r, (lbl l r).2 = t → (r : Int) = t := fun r e => by
    unfold lbl at e
    simp only at e
    split at e
    · exact e
    · omega
  have e1 := key r e
  have e2 := key r' e'
  have : r = r' := by omega
  subst this
  exact pw_inj (kps_pw l l.length) hr hr'
theorem pos_lab {l : List Ins} {j : Nat} {p : Ins × Int} {t : Int} (h0 : 0 ≤ t) (hp : (red lc (lw l))[j]? = some p) (ht : p.2 = t) : pos (red lc (lw l)) t = j :=
  pos_is hp ht fun i q hq e => lab_one h0 hq hp e ht
theorem pos_rev {l : List Ins} {p : Ins × Int} {t : Int} (h0 : 0 ≤ t) (hl : t < l.length) (hp : p ∈ red lc (lw l)) (ht : p.2 = t) :
    (pos ((red lc (lw l)).map (psi l)).reverse ((l.length : Int) - 1 - t) : Int) = ((red lc (lw l)).length : Int) - 1 - pos (red lc (lw l)) t := by
  obtain ⟨j, hj⟩ := List.mem_iff_getElem?.1 hp
  have hjl := (List.getElem?_eq_some_iff.1 hj).1
  rw [pos_lab h0 hj ht]
  generalize hm : (red lc (lw l)).length = m at *
  have hget : ∀ i, i < m → ((red lc (lw l)).map (psi l)).reverse[i]? = ((red lc (lw l))[m - 1 - i]?).map (psi l) := fun i hi => by
    rw [List.getElem?_reverse (by rw [List.length_map, hm]; exact hi), List.length_map, hm, List.getElem?_map]
  have : pos ((red lc (lw l)).map (psi l)).reverse ((l.length : Int) - 1 - t) = m - 1 - j := by
    refine pos_is (p := psi l p) (by rw [hget _ (by omega), show m - 1 - (m - 1 - j) = j by omega, hj]; rfl) (by show (if p.2 = -1 then (-1 : Int) else _) = _; rw [if_neg (by omega), ht]) fun i q hq e => ?_
    have hi := (List.getElem?_eq_some_iff.1 hq).1
    rw [List.length_reverse, List.length_map, hm] at hi
    rw [hget i hi] at hq
    obtain ⟨q', hq', rfl⟩ := Option.map_eq_some_iff.1 hq
    have e' : (if q'.2 = -1 then (-1 : Int) else (l.length : Int) - 1 - q'.2) = (l.length : Int) - 1 - t := e
    have e2 : q'.2 = t := by split at e' <;> omega
    have := lab_one h0 hq' hj e2 ht
    omega
  rw [this]
  omega
/-- pairs stay pairs -/
theorem pr_red {l : List Ins} (hd : Wd l) (hf : WF l) (hn : l.length ≤ 65536) : ∀ i j : Nat, PR l i j → (∃ p ∈ red lc (lw l), p.2 = (i : Int)) ∧ (∃ p ∈ red lc (lw l), p.2 = (j : Int)) ∧ PR (opt l) (pos (red lc (lw l)) i) (pos (red lc (lw l)) j) := by
  have lab0 : ∀ i j : Nat, PR l i j → (∃ p ∈ lw l, p.2 = (i : Int)) ∧ pos (lw l) (i : Int) = i := fun i j h => by
    obtain ⟨x, hx⟩ : ∃ x, l[i]? = some x := ⟨_, List.getElem?_eq_getElem h.lt.1⟩
    have ht := tb_rol (pr_role h hx)
    refine ⟨⟨(x, (i : Int)), List.mem_of_getElem? (i := i) ?_, rfl⟩, lw_pos hx ht⟩
    rw [lw_at, hx]
    simp only [Option.map_some, ht, if_true]
  have := pred_red (c := lc) (fun w => Cw w ∧ Wd (outp w) ∧ w.length ≤ 65536 ∧ ∀ i j : Nat, PR l i j → (∃ p ∈ w, p.2 = (i : Int)) ∧ (∃ p ∈ w, p.2 = (j : Int)) ∧ PR (outp w) (pos w i) (pos w j)) (fun u v a b hab ⟨h1, h2, h3, h4⟩ => ?_) (lw l) ⟨lw_cw hd, by rw [outp_lw hd]; exact hd, by rw [lw_len]; exact hn, fun i j h => ?_⟩
  · exact this.2.2.2
  · have hp := cut_pk h1 hab h2 h3
    obtain ⟨_, ha, hb⟩ := lc_iff.1 hab
    have hcut := outp_cut h1 hab
    refine ⟨h1.cut hab, by rw [hcut]; exact hp.wd_rmv, by simp only [List.length_append, List.length_cons] at h3 ⊢; omega, fun i j h => ?_⟩
    obtain ⟨⟨p, hpm, hpi⟩, ⟨q, hqm, hqj⟩, hpr⟩ := h4 i j h
    have sub : ∀ (p : Ins × Int) (i : Nat), p ∈ u ++ a :: b :: v → p.2 = (i : Int) → p ∈ u ++ v := fun p i hm e => by
      rcases List.mem_append.1 hm with hm | hm
      · exact List.mem_append_left _ hm
      · rcases List.mem_cons.1 hm with rfl | hm
        · omega
        · rcases List.mem_cons.1 hm with rfl | hm
          · omega
          · exact List.mem_append_right _ hm
    have m1 := sub p i hpm hpi
    have m2 := sub q j hqm hqj
    refine ⟨⟨p, m1, hpi⟩, ⟨q, m2, hqj⟩, ?_⟩
    have c1 := pos_cut (u := u) (v := v) (a := a) (b := b) (t := (i : Int)) ha hb (by omega) ⟨p, m1, hpi⟩
    have c2 := pos_cut (u := u) (v := v) (a := a) (b := b) (t := (j : Int)) ha hb (by omega) ⟨q, m2, hqj⟩
    obtain ⟨x, hx⟩ : ∃ x, (outp (u ++ a :: b :: v))[pos (u ++ a :: b :: v) (i : Int)]? = some x := ⟨_, List.getElem?_eq_getElem hpr.lt.1⟩
    obtain ⟨y, hy⟩ : ∃ y, (outp (u ++ a :: b :: v))[pos (u ++ a :: b :: v) (j : Int)]? = some y := ⟨_, List.getElem?_eq_getElem hpr.lt.2⟩
    obtain ⟨i', hi'⟩ := hp.tup hx (tb_rol (pr_role hpr hx))
    obtain ⟨j', hj'⟩ := hp.tup hy (tb_rol (pr_role hpr.symm hy))
    rw [hi', shft_up] at c1
    rw [hj', shft_up] at c2
    rw [hi', hj'] at hpr
    rw [hcut, Int.natCast_inj.1 c1, Int.natCast_inj.1 c2]
    exact hp.pr_up hpr
  · rw [outp_lw hd, (lab0 i j h).2, (lab0 j i h.symm).2]
    exact ⟨(lab0 i j h).1, (lab0 j i h.symm).1, h⟩
theorem opt_inv {l : List Ins} (hd : Wd l) (hf : WF l) (hn : l.length ≤ 65536) : opt (invL l) = invL (opt l) := by
  have hcw := (red_all hd hf hn).1
  have hlen : (opt l).length = (red lc (lw l)).length := outp_len _
  have hmem : ∀ p ∈ red lc (lw l), ∃ i, l[i]? = some p.1 := fun p hp => by
    rw [← kps_red] at hp
    obtain ⟨r, hr, rfl⟩ := List.mem_map.1 hp
    have hrl := kps_lt l l.length r hr
    refine ⟨r, ?_⟩
    unfold lbl
    rw [List.getD_eq_getElem?_getD, List.getElem?_eq_getElem hrl]
    rfl
  unfold opt at hlen ⊢
  rw [red_inv hd]
  unfold invL
  show outp ((red lc (lw l)).map (psi l)).reverse = _
  generalize hw2 : ((red lc (lw l)).map (psi l)).reverse = w2
  have e1 : outp w2 = (((red lc (lw l)).map (psi l)).map fun p => rtI p.1 (pos w2 (tgt p.1))).reverse := by
    unfold outp
    rw [← hw2, List.map_reverse]
  rw [e1, List.map_map]
  congr 1
  unfold outp
  rw [List.map_map]
  refine List.map_congr_left fun p hp => ?_
  show rtI (invI l p.1) (pos w2 (tgt (invI l p.1))) = invI (outp (red lc (lw l))) (rtI p.1 (pos (red lc (lw l)) (tgt p.1)))
  obtain ⟨i, hx⟩ := hmem p hp
  cases ht : tb p.1.k with
  | false =>
    rw [rtI_no p.1 _ ht, invI_no _ ht, invI_no _ ht, rtI_no _ _ (by rw [inI_tb]; exact ht)]
  | true =>
    have key : ∃ q : Nat, invT l p.1 = q ∧ q < l.length ∧ (∃ z ∈ red lc (lw l), z.2 = (q : Int)) ∧ invT (opt l) (rtI p.1 (pos (red lc (lw l)) (tgt p.1))) = pos (red lc (lw l)) (q : Int) := by
      by_cases hk : p.1.k = 30 ∨ p.1.k = 31
      · obtain ⟨s, e, hs, hse⟩ := hd.call i p.1 hx hk
        have ha : tgt p.1 = s := by
          unfold tgt tv
          rw [if_pos (by rcases hk with hk | hk <;> rw [hk] <;> rfl)]
          exact hs
        obtain ⟨_, hz, hpr⟩ := pr_red hd hf hn s e hse.1
        refine ⟨e, ?_, hse.lt.2, hz, ?_⟩
        · unfold invT
          rw [if_pos hk, show tv p.1.k p.1.a p.1.b = (s : Int) from ha, (part_iff l s (e : Int)).2 ⟨e, rfl, hse.1⟩]
          rfl
        · have ht2 : tgt (rtI p.1 (pos (red lc (lw l)) (tgt p.1))) = ((pos (red lc (lw l)) (s : Int) : Nat) : Int) := by rw [rtI_tgt _ _ ht, ha]
          unfold invT
          rw [if_pos (show (rtI p.1 (pos (red lc (lw l)) (tgt p.1))).k = 30 ∨ (rtI p.1 (pos (red lc (lw l)) (tgt p.1))).k = 31 from hk)]
          show (part (opt l) (tgt (rtI p.1 (pos (red lc (lw l)) (tgt p.1))))).getD 0 = _
          rw [ht2, (part_iff (opt l) _ _).2 ⟨_, rfl, hpr⟩]
          rfl
      · obtain ⟨q, hq, hql⟩ := hd.target hx ht
        have e0 : invT l p.1 = tgt p.1 := by unfold invT; rw [if_neg hk]; rfl
        have hz := (hcw.tin p hp ht).2
        rw [e0] at hq
        refine ⟨q, by rw [e0]; exact hq, hql, by rw [← hq]; exact hz, ?_⟩
        unfold invT
        rw [if_neg (show ¬ ((rtI p.1 (pos (red lc (lw l)) (tgt p.1))).k = 30 ∨ (rtI p.1 (pos (red lc (lw l)) (tgt p.1))).k = 31) from hk)]
        show tgt (rtI p.1 (pos (red lc (lw l)) (tgt p.1))) = _
        rw [rtI_tgt _ _ ht, hq]
    obtain ⟨q, hq, hql, ⟨z, hz, hzq⟩, hT⟩ := key
    have hp2 := pos_rev (l := l) (t := (q : Int)) (by omega) (by omega) hz hzq
    rw [hw2] at hp2
    rw [invI_tgt _ ht, hq, hp2]
    have hlen' : ((outp (red lc (lw l))).length : Int) = (red lc (lw l)).length := by rw [outp_len]
    have hT' : invT (outp (red lc (lw l))) (rtI p.1 (pos (red lc (lw l)) (tgt p.1))) = pos (red lc (lw l)) (q : Int) := hT
    show rtI (invI l p.1) _ = (⟨invO p.1.k, rta p.1.k (rta p.1.k p.1.a _) (((outp (red lc (lw l))).length : Int) - 1 - invT (outp (red lc (lw l))) _), rtb p.1.k (rtb p.1.k p.1.b _) (((outp (red lc (lw l))).length : Int) - 1 - invT (outp (red lc (lw l))) _), p.1.c, p.1.d⟩ : Ins)
    rw [re_re, re_reb, hT', hlen']
    unfold rtI invI
    simp only [rta_inv, rtb_inv, re_re, re_reb]
end Go.Proofs.YtkfmhmkeikhdbaaDoor
