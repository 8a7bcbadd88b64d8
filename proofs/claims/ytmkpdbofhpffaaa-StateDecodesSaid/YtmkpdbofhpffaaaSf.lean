/- The program's decoder and the reference's say the same. -/
import Derived.Test.YtmkpdbofhpffaaaSe
namespace Go.Proofs.Ytmkpdbofhpffaaa
open Go.Proofs.Ytmkpdbofhpffaaa.Pv Go.RowKit
set_option maxRecDepth 100000
set_option maxHeartbeats 4000000
set_option linter.unusedSimpArgs false
set_option linter.unusedVariables false
theorem beN_nil : beN [] = 0 := rfl
theorem be_nil : be [] = 0 := by unfold be; rw [beN_nil, IntKind.wrap_i64]; omega
theorem n_ne {l : List Int} {e : Int} {m : Nat} (h : e ≠ 0) : nE l e m = e := by unfold nE; rw [if_neg h]
theorem n_z {l : List Int} {m : Nat} : nE l 0 m = tE l m ∧ (tE l m = 0 → nR l 0 m = tR l m ∧ nL l 0 m = tL l m) := by
  by_cases h : 8 * m ≤ l.length
  · obtain ⟨h1, h2, h3⟩ := t_ok h
    refine ⟨by unfold nE; rw [if_pos rfl, if_pos h, h3], fun _ => ⟨by unfold nR; rw [if_pos ⟨rfl, h⟩, h1], by unfold nL; rw [if_pos rfl, h2, Nat.min_eq_left (by omega)]⟩⟩
  · obtain ⟨h1, h2, h3⟩ := t_no h
    exact ⟨by unfold nE; rw [if_pos rfl, if_neg h, h3], fun h' => by rw [h3] at h'; cases h'⟩
theorem q_ne {l : List Int} {e most : Int} (h : e ≠ 0) (hm : 0 ≤ most) : qE l e most = e := by
  have h1 : bE l e 2 = e ∧ bR l e 2 = [] := by
    by_cases h' : (2 : Int) > (l.length : Int)
    · exact ⟨(bE_gt h').1.trans (fl_nz h), (bE_gt h').2.1⟩
    · exact ⟨(bE_ne h' h).1, (bE_ne h' h).2.1⟩
  have h2 : lN l e = 0 := by unfold lN; rw [h1.2, be_nil]
  have h3 : lE l e most = e := by unfold lE; rw [h2, if_neg (by omega), h1.1]
  unfold qE
  rw [h3, n_ne h]
theorem two {l : List Int} (h : ¬ (2 : Int) > (l.length : Int)) : l.take 2 = [l.getD 0 0, l.getD 1 0] := by
  match l, h with
  | [], h => simp at h
  | [_], h => simp at h
  | a :: b :: l, _ => rfl
theorem kN_eq {l : List Int} (hb : B8 l) (h : ¬ (2 : Int) > (l.length : Int)) : kN l = l.getD 0 0 * 256 + l.getD 1 0 ∧ 0 ≤ l.getD 0 0 ∧ l.getD 0 0 < 256 ∧ 0 ≤ l.getD 1 0 ∧ l.getD 1 0 < 256 := by
  have h0 := hb (l.getD 0 0) (List.mem_of_mem_take (i := 2) (by rw [two h]; simp))
  have h1 := hb (l.getD 1 0) (List.mem_of_mem_take (i := 2) (by rw [two h]; simp))
  refine ⟨?_, h0.1, h0.2, h1.1, h1.2⟩
  unfold kN
  simp only [IntKind.wrap_i64]
  omega
theorem lN_eq {l : List Int} (hb : B8 l) (h : ¬ (2 : Int) > (l.length : Int)) : lN l 0 = kN l := by
  obtain ⟨h0, h1⟩ := kN_eq hb h
  unfold lN
  rw [(bE_ok h).2.1, show (2 : Int).toNat = 2 from rfl, two h, h0]
  unfold be beN
  simp only [List.foldl_cons, List.foldl_nil, IntKind.wrap_i64]
  omega
theorem q_z {l : List Int} {most : Int} (hb : B8 l) (hm : 0 ≤ most) : qE l 0 most = kE l most ∧ (kE l most = 0 → qR l 0 most = kR l most ∧ qL l 0 most = kL l most) := by
  by_cases h : (2 : Int) > (l.length : Int)
  · have h1 : lE l 0 most = 4 := by unfold lE lN; rw [(bE_gt h).2.1, be_nil, if_neg (by omega), (bE_gt h).1]; rfl
    have h2 : kE l most = 4 := by unfold kE; rw [if_pos (by omega)]
    exact ⟨by unfold qE; rw [h1, n_ne (by decide), h2], fun h' => by rw [h2] at h'; cases h'⟩
  · have h1 := lN_eq hb h
    by_cases h2 : kN l > most
    · have h3 : lE l 0 most = 5 := by unfold lE; rw [h1, if_pos h2, (bE_ok h).1]; rfl
      have h4 : kE l most = 5 := by unfold kE; rw [if_neg (by omega), if_pos h2]
      exact ⟨by unfold qE; rw [h3, n_ne (by decide), h4], fun h' => by rw [h4] at h'; cases h'⟩
    · have h3 : lE l 0 most = 0 := by unfold lE; rw [h1, if_neg h2, (bE_ok h).1]
      have h4 : bL l 0 2 = l.drop 2 := (bE_ok h).2.2
      have h5 : kE l most = tE (l.drop 2) (kN l).toNat ∧ kR l most = tR (l.drop 2) (kN l).toNat ∧ kL l most = tL (l.drop 2) (kN l).toNat := by
        unfold kE kR kL; rw [if_neg (by omega), if_neg h2, if_neg (by omega), if_neg h2, if_neg (by omega), if_neg h2]; exact ⟨rfl, rfl, rfl⟩
      obtain ⟨n1, n2⟩ := n_z (l := l.drop 2) (m := (kN l).toNat)
      unfold qE qR qL
      rw [h3, h4, h1, h5.1, h5.2.1, h5.2.2]
      exact ⟨n1, n2⟩
theorem v_ne {v : VD} {s : Rs} (h : s.e ≠ 0) : (vS v s).e = s.e := by
  unfold vS; split
  · exact q_ne h (by decide)
  · exact n_ne h
theorem wid_mx {v : VD} (hv : badV v = false) (h3 : ¬ v.k = 3) : wid v = mx1 v.n := by
  have := badV_iff.1 hv
  unfold wid mx1
  split <;> omega
theorem v_z {v : VD} {b : List Int} (hb : B8 b) (hv : badV v = false) : (vS v ⟨b, 0⟩).e = sE v b ∧ (sE v b = 0 → vR v ⟨b, 0⟩ = sR v b ∧ (vS v ⟨b, 0⟩).l = sL v b) := by
  unfold vS vR sE sR sL
  by_cases h : v.k = 3
  · simp only [if_pos h]
    exact q_z hb (by decide)
  · simp only [if_neg h]
    rw [wid_mx hv h]
    exact n_z
theorem rs_z {l : List VD} {b : List Int} (hb : B8 b) (hv : ∀ j, j < l.length → badV (l.getD j default) = false) : ∀ i, i ≤ l.length → (∀ j, j < i → dE l b j = 0) → rsN l b i = ⟨dL l b i, 0⟩ ∧ csN l b i = dC l b i
  | 0, _, _ => ⟨rfl, rfl⟩
  | i + 1, hi, h => by
    obtain ⟨h1, h2⟩ := rs_z hb hv i (by omega) (fun j hj => h j (by omega))
    have he := h i (by omega)
    obtain ⟨k1, k2⟩ := v_z (v := l.getD i default) (hb.dL (l := l) i) (hv i (by omega))
    obtain ⟨k3, k4⟩ := k2 he
    refine ⟨?_, ?_⟩
    · rw [rsN, h1, dL, ← k4]
      have : (vS (l.getD i default) ⟨dL l b i, 0⟩).e = 0 := k1.trans he
      cases hq : vS (l.getD i default) ⟨dL l b i, 0⟩ with
      | mk ll ee => rw [hq] at this; simp only at this ⊢; rw [this]
    · rw [dC_succ, ← h2]
      unfold csN
      rw [List.range_succ, List.map_append]
      congr 1
      show [vR (l.getD i default) (rsN l b i)] = _
      rw [h1, k3]; rfl
theorem rs_ne {l : List VD} {b : List Int} (hb : B8 b) (hv : ∀ j, j < l.length → badV (l.getD j default) = false) {j : Nat} (hj : j < l.length) (h1 : dE l b j ≠ 0) (h2 : ∀ k, k < j → dE l b k = 0) : ∀ i, j < i → (rsN l b i).e = dE l b j
  | 0, h => by omega
  | i + 1, h => by
    rw [rsN]
    rcases Nat.lt_or_ge j i with h3 | h3
    · have h4 := rs_ne hb hv hj h1 h2 i h3
      rw [v_ne (by rw [h4]; exact h1), h4]
    · obtain rfl : i = j := by omega
      rw [(rs_z hb hv i (by omega) h2).1, (v_z (hb.dL i) (hv i hj)).1]; rfl
theorem end_ne {l : List Int} {e : Int} (h : e ≠ 0) : endE l e = e := by unfold endE; split; exact fl_nz h; rfl
theorem end_z {l : List Int} : endE l 0 = if 0 < l.length then 3 else 0 := by unfold endE; split <;> rfl
/-- what the reference answers -/
def refE (l : List VD) (b : List Int) : Int := if kE (dL l b l.length) 4096 ≠ 0 then kE (dL l b l.length) 4096 else if kE (kL (dL l b l.length) 4096) 4096 ≠ 0 then kE (kL (dL l b l.length) 4096) 4096 else if 0 < (kL (kL (dL l b l.length) 4096) 4096).length then 3 else 0
theorem dec_stop {l : List VD} {b : List Int} (hb : B8 b) (hval : valV l = true) (hv : ∀ j, j < l.length → badV (l.getD j default) = false) {j : Nat} (hj : j < l.length) (h1 : dE l b j ≠ 0) (h2 : ∀ k, k < j → dE l b k = 0) : decE l b = dE l b j ∧ decS l b = ⟨[], [], []⟩ := by
  have h3 : (rsI l b).e = dE l b j := rs_ne hb hv hj h1 h2 _ hj
  have h4 : (rsO l b).e = dE l b j := by unfold rsO; simp only; rw [h3, q_ne h1 (by decide)]
  have h5 : (rsZ l b).e = dE l b j := by unfold rsZ; simp only; rw [h4, q_ne h1 (by decide)]
  have h6 : decE l b = dE l b j := by unfold decE finE; rw [if_pos hval, h5, end_ne h1]
  exact ⟨h6, by unfold decS; rw [h6, if_neg h1]⟩
theorem dec_all {l : List VD} {b : List Int} (hb : B8 b) (hval : valV l = true) (hv : ∀ j, j < l.length → badV (l.getD j default) = false) (h2 : ∀ k, k < l.length → dE l b k = 0) : decE l b = refE l b ∧ (refE l b = 0 → decS l b = ⟨dC l b l.length, kR (dL l b l.length) 4096, kR (kL (dL l b l.length) 4096) 4096⟩) := by
  obtain ⟨h3, h4⟩ := rs_z hb hv l.length (Nat.le_refl _) h2
  have h3 : rsI l b = ⟨dL l b l.length, 0⟩ := h3
  have hB := hb.dL (l := l) l.length
  obtain ⟨q1, q2⟩ := q_z (most := 4096) hB (by decide)
  by_cases e1 : kE (dL l b l.length) 4096 = 0
  · obtain ⟨q3, q4⟩ := q2 e1
    have h5 : rsO l b = ⟨kL (dL l b l.length) 4096, 0⟩ := by unfold rsO; rw [h3]; simp only; rw [q1, e1, q4]
    obtain ⟨p1, p2⟩ := q_z (most := 4096) (hB.kL 4096) (by decide)
    by_cases e2 : kE (kL (dL l b l.length) 4096) 4096 = 0
    · obtain ⟨p3, p4⟩ := p2 e2
      have h6 : rsZ l b = ⟨kL (kL (dL l b l.length) 4096) 4096, 0⟩ := by unfold rsZ; rw [h5]; simp only; rw [p1, e2, p4]
      have h7 : decE l b = refE l b := by
        unfold decE finE refE
        rw [if_pos hval, h6, if_neg (by omega), if_neg (by omega)]
        exact end_z
      refine ⟨h7, fun hz => ?_⟩
      unfold decS inR outR
      rw [h7, if_pos hz, h4, h5, h3]
      simp only
      rw [q3, p3]
    · have h6 : (rsZ l b).e = kE (kL (dL l b l.length) 4096) 4096 := by unfold rsZ; rw [h5]; simp only; rw [p1]
      have h8 : refE l b = kE (kL (dL l b l.length) 4096) 4096 := by unfold refE; rw [if_neg (by omega), if_pos e2]
      exact ⟨by unfold decE finE; rw [if_pos hval, h6, end_ne e2, h8], fun hz => by rw [h8] at hz; exact absurd hz e2⟩
  · have h5 : (rsO l b).e = kE (dL l b l.length) 4096 := by unfold rsO; rw [h3]; simp only; rw [q1]
    have h6 : (rsZ l b).e = kE (dL l b l.length) 4096 := by unfold rsZ; simp only; rw [h5, q_ne e1 (by decide)]
    have h8 : refE l b = kE (dL l b l.length) 4096 := by unfold refE; rw [if_pos e1]
    exact ⟨by unfold decE finE; rw [if_pos hval, h6, end_ne e1, h8], fun hz => by rw [h8] at hz; exact absurd hz e1⟩
end Go.Proofs.Ytmkpdbofhpffaaa
