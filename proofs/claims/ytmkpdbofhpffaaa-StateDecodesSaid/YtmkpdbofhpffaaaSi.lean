/- Decoding what was encoded, and encoding what was decoded. -/
import Derived.Test.YtmkpdbofhpffaaaSh
namespace Go.Proofs.Ytmkpdbofhpffaaa
open Go.Proofs.Ytmkpdbofhpffaaa.Pv Go.RowKit
set_option maxRecDepth 100000
set_option maxHeartbeats 4000000
set_option linter.unusedSimpArgs false
set_option linter.unusedVariables false
theorem beN8 (a b c d e f g h : Int) : beN [a, b, c, d, e, f, g, h] = a * 72057594037927936 + b * 281474976710656 + c * 1099511627776 + d * 4294967296 + e * 16777216 + f * 65536 + g * 256 + h := by
  unfold beN
  simp only [List.foldl_cons, List.foldl_nil]
  omega
theorem be_be8 {x : Int} (h : R64 x) : be (be8 x) = x := by
  unfold be
  rw [be8_eq, beN8, ← sum8, IntKind.wrap_i64]
  unfold R64 at h
  omega
theorem be8_be {l : List Int} (hb : B8 l) (h : l.length = 8) : be8 (be l) = l := by
  match l, h with
  | [a, b, c, d, e, f, g, i], _ =>
    have h0 := hb a (by simp)
    have h1 := hb b (by simp)
    have h2 := hb c (by simp)
    have h3 := hb d (by simp)
    have h4 := hb e (by simp)
    have h5 := hb f (by simp)
    have h6 := hb g (by simp)
    have h7 := hb i (by simp)
    rw [be8_eq]
    unfold be
    rw [beN8, IntKind.wrap_i64]
    simp only [List.cons.injEq, and_true]
    omega
theorem bes_app (a b : List Int) : bes (a ++ b) = bes a ++ bes b := by unfold bes; rw [List.flatMap_append]
theorem bes_nums {l : List Int} (hb : B8 l) : ∀ {m : Nat}, 8 * m ≤ l.length → bes (nums l m) = l.take (8 * m)
  | 0, _ => rfl
  | m + 1, h => by
    rw [nums_succ, bes_app, bes_nums hb (by omega)]
    have e1 : bes [num l m] = (l.drop (8 * m)).take 8 := by
      show be8 (num l m) ++ [] = _
      rw [List.append_nil]
      exact be8_be ((hb.drop _).take _) (by rw [List.length_take, List.length_drop]; omega)
    rw [e1, show 8 * (m + 1) = 8 * m + 8 by omega, List.take_add]
theorem nums_bes {r : List Int} : ∀ {c : List Int}, (∀ x ∈ c, R64 x) → ∀ {p : List Int} {k : Nat}, p.length = 8 * k → (List.range c.length).map (fun j => num (p ++ (bes c ++ r)) (k + j)) = c
  | [], _, p, k, _ => rfl
  | x :: c, h, p, k, hp => by
    have hx := h x (List.mem_cons_self ..)
    have e0 : bes (x :: c) = be8 x ++ bes c := rfl
    rw [List.length_cons, List.range_succ_eq_map, List.map_cons, List.map_map]
    congr 1
    · unfold num
      rw [show 8 * (k + 0) = p.length by omega, List.drop_left, e0, List.append_assoc, List.take_left' (be8_len x), be_be8 hx]
    · have ih := nums_bes (r := r) (c := c) (fun y hy => h y (List.mem_cons_of_mem _ hy)) (p := p ++ be8 x) (k := k + 1) (by rw [List.length_append, be8_len]; omega)
      rw [e0]
      conv => rhs; rw [← ih]
      refine List.map_congr_left fun j _ => ?_
      show num _ (k + (j + 1)) = _
      rw [show k + (j + 1) = k + 1 + j by omega]
      simp only [List.append_assoc]
theorem nums_enc {c r : List Int} (h : ∀ x ∈ c, R64 x) : nums (bes c ++ r) c.length = c := by
  have := nums_bes (r := r) h (p := []) (k := 0) rfl
  unfold nums
  simpa using this
theorem t_enc {c r : List Int} (h : ∀ x ∈ c, R64 x) : tE (bes c ++ r) c.length = 0 ∧ tR (bes c ++ r) c.length = c ∧ tL (bes c ++ r) c.length = r := by
  have hl : 8 * c.length ≤ (bes c ++ r).length := by rw [List.length_append, bes_len]; omega
  obtain ⟨h1, h2, h3⟩ := t_ok hl
  exact ⟨h3, by rw [h1, nums_enc h], by rw [h2, ← bes_len, List.drop_left]⟩
theorem kN_be2 {n : Nat} {r : List Int} (h : n < 65536) : kN (be2 (n : Int) ++ r) = n := by
  rw [be2_eq]
  unfold kN
  show IntKind.wrap .i64 (IntKind.wrap .i64 (IntKind.wrap .i64 ((n : Int) / 256 % 256) * 256) + IntKind.wrap .i64 ((n : Int) % 256)) = n
  simp only [IntKind.wrap_i64]
  omega
theorem k_enc {c r : List Int} {m : Int} (hm : m < 65536) (hc : (c.length : Int) ≤ m) (h : ∀ x ∈ c, R64 x) : kE (be2 (c.length : Int) ++ (bes c ++ r)) m = 0 ∧ kR (be2 (c.length : Int) ++ (bes c ++ r)) m = c ∧ kL (be2 (c.length : Int) ++ (bes c ++ r)) m = r := by
  have hk : kN (be2 (c.length : Int) ++ (bes c ++ r)) = c.length := kN_be2 (by omega)
  have hl : ¬ (be2 (c.length : Int) ++ (bes c ++ r)).length < 2 := by rw [List.length_append, be2_len]; omega
  have hd : (be2 (c.length : Int) ++ (bes c ++ r)).drop 2 = bes c ++ r := List.drop_left' (be2_len _)
  obtain ⟨h1, h2, h3⟩ := t_enc (r := r) h
  unfold kE kR kL
  rw [hk, hd, if_neg hl, if_neg hl, if_neg hl, if_neg (by omega), if_neg (by omega), if_neg (by omega), Int.toNat_natCast]
  exact ⟨h1, h2, h3⟩
theorem v_enc {v : VD} {c r : List Int} (hv : badV v = false) (hf : fitC v c = true) (h : ∀ x ∈ c, R64 x) : sE v (encV v c ++ r) = 0 ∧ sR v (encV v c ++ r) = c ∧ sL v (encV v c ++ r) = r := by
  have hf := fitC_iff.1 hf
  unfold sE sR sL encV
  by_cases h3 : v.k = 3
  · simp only [if_pos h3]
    rw [List.append_assoc]
    exact k_enc (m := 1000) (by decide) (by have := hf.1 h3; omega) h
  · simp only [if_neg h3, List.nil_append]
    have e : (mx1 v.n).toNat = c.length := by
      have := hf.2 h3
      rw [← wid_mx hv h3]; omega
    rw [e]
    exact t_enc h
theorem encN_pre (l : List VD) (s : St) (i : Nat) : ∀ k, ∃ Y, encN l s (i + k) = encN l s i ++ Y
  | 0 => ⟨[], by rw [List.append_nil]; rfl⟩
  | k + 1 => by
    obtain ⟨Y, h⟩ := encN_pre l s i k
    exact ⟨Y ++ encV (l.getD (i + k) default) (s.c.getD (i + k) default), by rw [← Nat.add_assoc, encN_succ, h, List.append_assoc]⟩
theorem dL_enc {l : List VD} {s : St} {T : List Int} (hv : ∀ j, j < l.length → badV (l.getD j default) = false) (hf : ∀ j, j < l.length → fitC (l.getD j default) (s.c.getD j default) = true) (hr : ∀ j, j < l.length → ∀ x ∈ s.c.getD j default, R64 x) :
    ∀ i, i ≤ l.length → dL l (encN l s l.length ++ T) i = (encN l s l.length).drop (encN l s i).length ++ T ∧ ∀ j, j < i → dE l (encN l s l.length ++ T) j = 0 ∧ dR l (encN l s l.length ++ T) j = s.c.getD j default
  | 0, _ => ⟨rfl, fun j hj => by omega⟩
  | i + 1, hi => by
    obtain ⟨h1, h2⟩ := dL_enc (T := T) hv hf hr i (by omega)
    obtain ⟨Y, hY⟩ := encN_pre l s (i + 1) (l.length - (i + 1))
    rw [show i + 1 + (l.length - (i + 1)) = l.length by omega] at hY
    have h3 : (encN l s l.length).drop (encN l s i).length = encV (l.getD i default) (s.c.getD i default) ++ Y := by
      rw [hY, encN_succ, List.append_assoc, List.drop_left]
    have h4 : (encN l s l.length).drop (encN l s (i + 1)).length = Y := by rw [hY, List.drop_left]
    rw [h3, List.append_assoc] at h1
    obtain ⟨k1, k2, k3⟩ := v_enc (r := Y ++ T) (hv i (by omega)) (hf i (by omega)) (hr i (by omega))
    refine ⟨by rw [dL, h1, k3, h4], fun j hj => ?_⟩
    rcases Nat.lt_or_ge j i with hlt | hge
    · exact h2 j hlt
    · obtain rfl : j = i := by omega
      exact ⟨by unfold dE; rw [h1, k1], by unfold dR; rw [h1, k2]⟩
/-- decoding what was encoded -/
theorem dec_enc {l : List VD} {s : St} (hf : fitV l s = true) (hr : InR s) : decE l (enc l s) = 0 ∧ decS l (enc l s) = s := by
  obtain ⟨hval, hlen, hi, ho, hfc⟩ := fitV_iff.1 hf
  have hv := bad_all hval
  have hrc : ∀ j, j < l.length → ∀ x ∈ s.c.getD j default, R64 x := fun j hj => hr.1 _ (by rw [List.getD_eq_getElem?_getD, List.getElem?_eq_getElem (by omega)]; exact List.getElem_mem _)
  obtain ⟨T, hT⟩ : ∃ T, T = be2 (s.i.length : Int) ++ (bes s.i ++ (be2 (s.o.length : Int) ++ (bes s.o ++ []))) := ⟨_, rfl⟩
  have he : enc l s = encN l s l.length ++ T := by rw [hT]; simp [enc]
  obtain ⟨h1, h2⟩ := dL_enc (T := T) hv hfc hrc l.length (Nat.le_refl _)
  have h1 : dL l (enc l s) l.length = T := by rw [he, h1, List.drop_length, List.nil_append]
  have k1 := k_enc (m := 4096) (r := be2 (s.o.length : Int) ++ (bes s.o ++ [])) (by decide) (by omega) hr.2.1
  have k2 := k_enc (m := 4096) (r := []) (by decide) (by omega) hr.2.2
  rw [← hT] at k1
  obtain ⟨d1, d2⟩ := dec_all (b := enc l s) (B8.enc l s) hval hv (fun k hk => by rw [he]; exact (h2 k hk).1)
  have hz : refE l (enc l s) = 0 := by
    unfold refE
    rw [h1, k1.2.2, k1.1, k2.1, k2.2.2]; rfl
  refine ⟨d1.trans hz, ?_⟩
  rw [d2 hz, h1, k1.2.2, k1.2.1, k2.2.1]
  obtain ⟨c, i, o⟩ := s
  simp only [St.mk.injEq, and_true]
  refine ext_getD (d := default) (by rw [dC_len]; exact hlen.symm) fun j hj => ?_
  rw [dC_len] at hj
  have : (dC l (enc l ⟨c, i, o⟩) l.length).getD j default = dR l (enc l ⟨c, i, o⟩) j := by
    unfold dC
    rw [List.getD_eq_getElem?_getD, List.getElem?_map, List.getElem?_range hj]; rfl
  rw [this, he]
  exact (h2 j hj).2
theorem t_dec {l : List Int} {m : Nat} (hb : B8 l) (h : tE l m = 0) : l = bes (tR l m) ++ tL l m ∧ (tR l m).length = m := by
  have hm : 8 * m ≤ l.length := Classical.byContradiction fun hh => by rw [(t_no hh).2.2] at h; cases h
  obtain ⟨h1, h2, h3⟩ := t_ok hm
  rw [h1, h2, bes_nums hb hm, List.take_append_drop, nums_len]
  exact ⟨rfl, rfl⟩
theorem k_dec {l : List Int} {m : Int} (hb : B8 l) (h : kE l m = 0) : l = be2 ((kR l m).length : Int) ++ (bes (kR l m) ++ kL l m) ∧ ((kR l m).length : Int) ≤ m := by
  have h2 : ¬ l.length < 2 := fun hh => by unfold kE at h; rw [if_pos hh] at h; cases h
  have hg : ¬ kN l > m := fun hh => by unfold kE at h; rw [if_neg h2, if_pos hh] at h; cases h
  obtain ⟨hk, hk0⟩ := kN_eq hb (by omega)
  have e : kE l m = tE (l.drop 2) (kN l).toNat ∧ kR l m = tR (l.drop 2) (kN l).toNat ∧ kL l m = tL (l.drop 2) (kN l).toNat := by
    unfold kE kR kL; rw [if_neg h2, if_neg hg, if_neg h2, if_neg hg, if_neg h2, if_neg hg]; exact ⟨rfl, rfl, rfl⟩
  rw [e.1] at h
  obtain ⟨t1, t2⟩ := t_dec (hb.drop 2) h
  rw [e.2.1, e.2.2, t2, ← t1]
  refine ⟨?_, by omega⟩
  conv => lhs; rw [← List.take_append_drop 2 l]
  congr 1
  rw [two (by omega), be2_eq, Int.toNat_of_nonneg (by omega), hk]
  simp only [List.cons.injEq, and_true]
  omega
theorem v_dec {v : VD} {b : List Int} (hb : B8 b) (hv : badV v = false) (h : sE v b = 0) : b = encV v (sR v b) ++ sL v b ∧ fitC v (sR v b) = true := by
  rw [fitC_iff]
  unfold sE at h
  unfold sR sL encV
  by_cases h3 : v.k = 3
  · simp only [if_pos h3] at h ⊢
    obtain ⟨k1, k2⟩ := k_dec hb h
    refine ⟨by rw [List.append_assoc]; exact k1, fun _ => by omega, fun hh => absurd h3 hh⟩
  · simp only [if_neg h3] at h ⊢
    obtain ⟨k1, k2⟩ := t_dec hb h
    refine ⟨k1, fun hh => absurd hh h3, fun _ => ?_⟩
    rw [k2, wid_mx hv h3]
    unfold mx1; omega
theorem dC_at {l : List VD} {b : List Int} {n j : Nat} (hj : j < n) : (dC l b n).getD j default = dR l b j := by
  unfold dC
  rw [List.getD_eq_getElem?_getD, List.getElem?_map, List.getElem?_range hj]; rfl
theorem enc_dL {l : List VD} {b : List Int} (hb : B8 b) {s : St} (hs : ∀ j, j < l.length → s.c.getD j default = dR l b j) (hv : ∀ j, j < l.length → badV (l.getD j default) = false) (he : ∀ j, j < l.length → dE l b j = 0) : ∀ i, i ≤ l.length → b = encN l s i ++ dL l b i
  | 0, _ => rfl
  | i + 1, hi => by
    have h1 := enc_dL hb hs hv he i (by omega)
    have h2 := (v_dec (hb.dL (l := l) i) (hv i (by omega)) (he i (by omega))).1
    rw [encN_succ, hs i (by omega), dL, List.append_assoc]
    conv => lhs; rw [h1, h2]
    rfl
theorem num_r (l : List Int) (j : Nat) : R64 (num l j) := by unfold num be R64; rw [IntKind.wrap_i64]; omega
/-- encoding what was decoded -/
theorem enc_dec {l : List VD} {b : List Int} (hb : B8 b) (h : decE l b = 0) : fitV l (decS l b) = true ∧ enc l (decS l b) = b := by
  have hval : valV l = true := by
    rw [← Bool.not_eq_false]; intro hh; rw [dec_bad hh] at h; cases h
  have hv := bad_all hval
  have he : ∀ j, j < l.length → decide (dE l b j = 0) = true := by
    refine Classical.byContradiction fun hh => ?_
    obtain ⟨j, j1, j2, j3⟩ := first_false hh
    rw [(dec_stop hb hval hv j1 (of_decide_eq_false j2) (fun k hk => of_decide_eq_true (j3 k hk))).1] at h
    exact of_decide_eq_false j2 h
  have he : ∀ j, j < l.length → dE l b j = 0 := fun j hj => of_decide_eq_true (he j hj)
  obtain ⟨d1, d2⟩ := dec_all hb hval hv he
  have hz : refE l b = 0 := d1.symm.trans h
  have e1 : kE (dL l b l.length) 4096 = 0 := Classical.byContradiction fun hh => by unfold refE at hz; rw [if_pos hh] at hz; exact hh hz
  have e2 : kE (kL (dL l b l.length) 4096) 4096 = 0 := Classical.byContradiction fun hh => by unfold refE at hz; rw [if_neg (by omega), if_pos hh] at hz; exact hh hz
  have e3 : kL (kL (dL l b l.length) 4096) 4096 = [] := by
    unfold refE at hz
    rw [if_neg (by omega), if_neg (by omega)] at hz
    cases hq : kL (kL (dL l b l.length) 4096) 4096 with
    | nil => rfl
    | cons x y => rw [hq] at hz; simp at hz
  have hB := hb.dL (l := l) l.length
  obtain ⟨k1, k2⟩ := k_dec hB e1
  obtain ⟨k3, k4⟩ := k_dec (hB.kL 4096) e2
  rw [e3, List.append_nil] at k3
  rw [d2 hz]
  refine ⟨fitV_iff.2 ⟨hval, dC_len _ _ _, by show List.length (kR _ _) ≤ _; omega, by show List.length (kR _ _) ≤ _; omega, fun j hj => ?_⟩, ?_⟩
  · show fitC _ ((dC l b l.length).getD j default) = true
    rw [dC_at hj]
    exact (v_dec (hb.dL j) (hv j hj) (he j hj)).2
  · have h4 := enc_dL (s := ⟨dC l b l.length, kR (dL l b l.length) 4096, kR (kL (dL l b l.length) 4096) 4096⟩) hb (fun j hj => dC_at hj) hv he l.length (Nat.le_refl _)
    have k5 := k1.trans (congrArg (fun z => be2 ((kR (dL l b l.length) 4096).length : Int) ++ (bes (kR (dL l b l.length) 4096) ++ z)) k3)
    refine Eq.trans ?_ (h4.trans (congrArg (fun z => encN l ⟨dC l b l.length, kR (dL l b l.length) 4096, kR (kL (dL l b l.length) 4096) 4096⟩ l.length ++ z) k5)).symm
    simp only [enc, List.length_map, List.append_assoc]
end Go.Proofs.Ytmkpdbofhpffaaa
