/- Contract: the partner as the reference computes it. -/
import Derived.Test.YtalkhkhnpplofaaDoorRows
import Derived.WalkKit
import Derived.ProofKit
import Derived.OpenShut
import Derived.Below
import Derived.Lib.Hide
import Derived.Outline
import Derived.WalkLawsBesides
import Derived.WalkSpells
import Derived.WalkSmall
import Derived.IntWalk
import Derived.Deep.QuietTactic
import Derived.BigQuiet
import Derived.Deep.RegionHeld3
import Derived.StillTailTactics
import Derived.Handy
import Derived.Deep.Cut
import Derived.Deep.OwnRows
import Derived.Deep.RegionWith
import Derived.Test.YtalkhkhnpplofaaDoorPair
namespace Go.Proofs.YtalkhkhnpplofaaDoor
open Go.ChangeShapes Go.WideShapes Go.ChangeAt Go.RowKit
set_option linter.unusedSimpArgs false
set_option linter.unusedVariables false
theorem ret_i64 {a b : Int} (h : a = b) : Ending.returned (.int .i64 a) = .returned (.int .i64 b) := by rw [h]
set_option maxRecDepth 100000 in
set_option maxHeartbeats 4000000 in
theorem rpartner_any (a : Option Addr) (n cap : Nat) (l : List Ins) (i : Int) (w : World) (h : SliceC w a l) (hn : l.length = n) (hw : WF l) :
    Calls Tryd.prog 18 #[.slice a n cap, .int .i64 i] w fun e w' => e = .returned (.int .i64 (rp l i)) ∧ Below w.heap.size w w' := by
  by_cases h1 : i < 0
  · have hr : rp l i = -1 := by unfold rp; rw [part_none_lt l i h1]; rfl
    rw [hr]
    have hd : decide (i < 0) = true := by simpa using h1
    go_enter Tryd.func18, Tryd.ntmps18
    go_wp2
    go_ret
    exact ⟨rfl, Below.refl _ _⟩
  have hd : decide (i < 0) = false := by simpa using h1
  by_cases h2 : (n : Int) ≤ i
  · have hr : rp l i = -1 := by unfold rp; rw [part_none_ge l i (by omega)]; rfl
    rw [hr]
    have hd2 : decide ((n : Int) ≤ i) = true := by simpa using h2
    go_enter Tryd.func18, Tryd.ntmps18
    go_wp2
    go_ret
    exact ⟨rfl, Below.refl _ _⟩
  have hd2 : decide ((n : Int) ≤ i) = false := by simpa using h2
  obtain ⟨j, rfl⟩ : ∃ j : Nat, i = j := ⟨i.toNat, by omega⟩
  have hjn : (j : Int) < (n : Int) := by omega
  obtain ⟨x, hx⟩ : ∃ x, l[j]? = some x := ⟨_, List.getElem?_eq_getElem (show j < l.length by omega)⟩
  have HX := Lib.hid hx
  have hk := hw.at hx
  have HS := Lib.hid h
  obtain ⟨b, o, rfl, hbl, c0, c1, c2, c3, c4⟩ := h.at hx
  clear h
  cases hv : validB x.k x.a x.b x.c x.d
  · have hr : rp l j = -1 := rp_none fun q hq => by
      obtain ⟨x', y', k1, _, k3, _⟩ := pr_data hq
      rw [hx] at k1; cases k1
      rw [show vld x = _ from hv] at k3; cases k3
    rw [hr]
    have HV := Lib.hid hv
    clear hv hr hx
    go_enter Tryd.func18, Tryd.ntmps18
    go_wp2_with (go_at_call_of 36 x.k; refine (refValid_any x.k x.a x.b x.c x.d _ hk).mono ?_; rintro e w1 ⟨rfl, hb⟩; rw [HV.out]; have HB1 := Lib.hid hb; obtain ⟨b', o', ha', hbl1, e0, e1, e2, e3, e4⟩ := (HS.out.below hb).at HX.out; cases ha'; clear hb)
    go_ret
    exact ⟨rfl, HB1.out⟩
  have HV := Lib.hid hv
  obtain ⟨t, ht⟩ : ∃ t, rtg x.k x.a x.b = t := ⟨_, rfl⟩
  have HT := Lib.hid ht
  by_cases ht0 : t < 0
  · have hr : rp l j = -1 := rp_none fun q hq => by
      obtain ⟨x', y', k1, _, _, _, k5, _⟩ := pr_data hq
      rw [hx] at k1; cases k1
      rw [ht] at k5; omega
    rw [hr]
    have hd3 : decide (t < 0) = true := by simpa using ht0
    clear hv hr hx ht
    go_enter Tryd.func18, Tryd.ntmps18
    go_wp2_with (first | (go_at_call_of 36 x.k; refine (refValid_any x.k x.a x.b x.c x.d _ hk).mono ?_; rintro e w1 ⟨rfl, hb⟩; rw [HV.out]; have HB1 := Lib.hid hb; obtain ⟨b', o', ha', hbl1, e0, e1, e2, e3, e4⟩ := (HS.out.below hb).at HX.out; cases ha'; clear hb) | (go_at_call_of 37 x.k; refine (rtarget_any x.k x.a x.b x.c x.d _).mono ?_; rintro e w2 ⟨rfl, hb⟩; rw [HT.out]; have HB2 := Lib.hid (below_on HB1.out hb); clear hb))
    go_ret
    exact ⟨rfl, HB2.out⟩
  have hd3 : decide (t < 0) = false := by simpa using ht0
  by_cases ht1 : (n : Int) ≤ t
  · have hr : rp l j = -1 := rp_none fun q hq => by
      obtain ⟨x', y', k1, k2, _, _, k5, _⟩ := pr_data hq
      rw [hx] at k1; cases k1
      have := lt_len k2
      rw [ht] at k5; omega
    rw [hr]
    have hd4 : decide ((n : Int) ≤ t) = true := by simpa using ht1
    clear hv hr hx ht
    go_enter Tryd.func18, Tryd.ntmps18
    go_wp2_with (first | (go_at_call_of 36 x.k; refine (refValid_any x.k x.a x.b x.c x.d _ hk).mono ?_; rintro e w1 ⟨rfl, hb⟩; rw [HV.out]; have HB1 := Lib.hid hb; obtain ⟨b', o', ha', hbl1, e0, e1, e2, e3, e4⟩ := (HS.out.below hb).at HX.out; cases ha'; clear hb) | (go_at_call_of 37 x.k; refine (rtarget_any x.k x.a x.b x.c x.d _).mono ?_; rintro e w2 ⟨rfl, hb⟩; rw [HT.out]; have HB2 := Lib.hid (below_on HB1.out hb); clear hb))
    go_ret
    exact ⟨rfl, HB2.out⟩
  obtain ⟨q, rfl⟩ : ∃ q : Nat, t = q := ⟨t.toNat, by omega⟩
  have hd4 : decide ((n : Int) ≤ (q : Int)) = false := by simpa using ht1
  have hd5 : decide (n ≤ q) = false := by simp; omega
  have hqn : (q : Int) < (n : Int) := by omega
  obtain ⟨y, hy⟩ : ∃ y, l[q]? = some y := ⟨_, List.getElem?_eq_getElem (show q < l.length by omega)⟩
  have HY := Lib.hid hy
  have hky := hw.at hy
  obtain ⟨b', o', ha', hbl', d0, d1, d2, d3, d4⟩ := HS.out.at hy
  cases ha'
  cases hvy : validB y.k y.a y.b y.c y.d
  · have hr : rp l j = -1 := rp_none fun q' hq => by
      obtain ⟨x', y', k1, k2, _, k4, k5, _⟩ := pr_data hq
      rw [hx] at k1; cases k1
      rw [ht] at k5
      have : q' = q := by omega
      subst this
      rw [hy] at k2; cases k2
      rw [show vld y = _ from hvy] at k4; cases k4
    rw [hr]
    have HVY := Lib.hid hvy
    clear hv hr hx hy hvy ht
    go_enter Tryd.func18, Tryd.ntmps18
    go_wp2_with (first | (go_at_call_of 36 x.k; refine (refValid_any x.k x.a x.b x.c x.d _ hk).mono ?_; rintro e w1 ⟨rfl, hb⟩; rw [HV.out]; have HB1 := Lib.hid hb; obtain ⟨b', o', ha', hbl1, e0, e1, e2, e3, e4⟩ := (HS.out.below hb).at HX.out; cases ha'; clear hb) | (go_at_call_of 37 x.k; refine (rtarget_any x.k x.a x.b x.c x.d _).mono ?_; rintro e w2 ⟨rfl, hb⟩; rw [HT.out]; have HB2 := Lib.hid (below_on HB1.out hb); obtain ⟨b2, o2, ha2, hbl2, g0, g1, g2, g3, g4⟩ := (HS.out.below HB2.out).at HY.out; cases ha2; clear hb) | (go_at_call_of 36 y.k; refine (refValid_any y.k y.a y.b y.c y.d _ hky).mono ?_; rintro e w3 ⟨rfl, hb⟩; rw [HVY.out]; have HB3 := Lib.hid (below_on HB2.out hb); clear hb))
    go_ret
    exact ⟨rfl, HB3.out⟩
  have HVY := Lib.hid hvy
  obtain ⟨t', ht'⟩ : ∃ t', rtg y.k y.a y.b = t' := ⟨_, rfl⟩
  have HTY := Lib.hid ht'
  by_cases hti : t' = j
  · subst hti
    have hnj : (((j : Nat) : Int) != ((j : Nat) : Int)) = false := by simp
    obtain ⟨v, hv2⟩ : ∃ v, ops2 (if j ≤ q then x.k else y.k) (if j ≤ q then y.k else x.k) (decide (j ≠ q)) = v := ⟨_, rfl⟩
    have HRP : Hid (rp l j = if v = true then (q : Int) else -1) := Lib.hid (by
      cases v
      · rw [if_neg (by decide)]
        exact rp_none fun q' hq => by
          obtain ⟨x', y', k1, k2, _, _, k5, _⟩ := pr_data hq
          rw [hx] at k1; cases k1
          rw [ht] at k5
          have : q' = q := by omega
          subst this
          rw [pr_ops2 hx hy hq] at hv2
          cases hv2
      · rw [if_pos rfl]
        exact rp_some (ops2_pr hx hy hv hvy ht ht' hv2))
    have HV2 := Lib.hid hv2
    clear hv2 hv hvy hx hy ht ht'
    go_enter Tryd.func18, Tryd.ntmps18
    by_cases hle : j ≤ q
    · have hmin : min (j : Int) (q : Int) = (j : Int) := by omega
      have hmax : max (j : Int) (q : Int) = (q : Int) := by omega
      go_upto_region 6 with (first | (go_at_call_of 36 x.k; refine (refValid_any x.k x.a x.b x.c x.d _ hk).mono ?_; rintro e w1 ⟨rfl, hb⟩; rw [HV.out]; have HB1 := Lib.hid hb; obtain ⟨b', o', ha', hbl1, e0, e1, e2, e3, e4⟩ := (HS.out.below hb).at HX.out; cases ha'; clear hb) | (go_at_call_of 37 x.k; refine (rtarget_any x.k x.a x.b x.c x.d _).mono ?_; rintro e w2 ⟨rfl, hb⟩; rw [HT.out]; have HB2 := Lib.hid (below_on HB1.out hb); obtain ⟨b2, o2, ha2, hbl2, g0, g1, g2, g3, g4⟩ := (HS.out.below HB2.out).at HY.out; cases ha2; clear hb) | (go_at_call_of 36 y.k; refine (refValid_any y.k y.a y.b y.c y.d _ hky).mono ?_; rintro e w3 ⟨rfl, hb⟩; rw [HVY.out]; have HB3 := Lib.hid (below_on HB2.out hb); obtain ⟨b3, o3, ha3, hbl3, z0, z1, z2, z3, z4⟩ := (HS.out.below HB3.out).at HY.out; cases ha3; clear hb) | (go_at_call_of 37 y.k; refine (rtarget_any y.k y.a y.b y.c y.d _).mono ?_; rintro e w4 ⟨rfl, hb⟩; rw [HTY.out]; have HB4 := Lib.hid (below_on HB3.out hb); obtain ⟨b4, o4, ha4, hbl4, z0, z1, z2, z3, z4⟩ := (HS.out.below HB4.out).at HY.out; obtain ⟨b5, o5, ha5, hbl5, u0, u1, u2, u3, u4⟩ := (HS.out.below HB4.out).at HX.out; cases ha4; cases ha5; clear hb))
      go_quiet (fail)
      rw [if_pos hle, if_pos hle] at HV2
      have x1 : jmp x.k = true → lnd x.k = false ∧ (x.k == 32) = false := by unfold jmp lnd; simp; omega
      have x2 : lnd x.k = true → (x.k == 32) = false := by unfold lnd; simp; omega
      have hjq : ((j : Int) != (q : Int)) = decide (j ≠ q) := (by by_cases e : j = q; (subst e; simp); (have e2 : ¬ (j : Int) = (q : Int) := by omega); (have e3 : ((j : Int) != (q : Int)) = true := by simpa using e2); rw [e3]; simp [e])
      have HJQ := Lib.hid hjq
      clear hjq
      cases hja : jmp x.k <;> cases hlb : lnd y.k <;> cases hla : lnd x.k <;> cases hjb : jmp y.k <;> cases hne : decide (j ≠ q) <;> cases h32 : (x.k == 32) <;> cases h33 : (y.k == 33) <;> (first | (exfalso; have := x1 hja; simp_all; done) | (exfalso; have := x2 hla; simp_all; done) | skip)
      all_goals
        have HJA := Lib.hid hja
        have HLB := Lib.hid hlb
        have HLA := Lib.hid hla
        have HJB := Lib.hid hjb
        have hjq2 := HJQ.out.trans hne
        have hv3 := HV2.out
        unfold ops2 at hv3
        rw [hja, hlb, hla, hjb, hne, h32, h33] at hv3
        clear x1 x2
        subst hv3
        go_wp2_with (first | (go_at_call_of 38 x.k; refine (rjump_any _ _).mono ?_; rintro e w5 ⟨rfl, rfl⟩; rw [HJA.out]) | (go_at_call_of 39 y.k; refine (rland_any _ _).mono ?_; rintro e w5 ⟨rfl, rfl⟩; rw [HLB.out]) | (go_at_call_of 39 x.k; refine (rland_any _ _).mono ?_; rintro e w5 ⟨rfl, rfl⟩; rw [HLA.out]) | (go_at_call_of 38 y.k; refine (rjump_any _ _).mono ?_; rintro e w5 ⟨rfl, rfl⟩; rw [HJB.out]))
        go_ret
        exact ⟨ret_i64 (by rw [HRP.out]; rfl), below_drewN HB4.out _⟩
    · have hmin : min (j : Int) (q : Int) = (q : Int) := by omega
      have hmax : max (j : Int) (q : Int) = (j : Int) := by omega
      go_upto_region 6 with (first | (go_at_call_of 36 x.k; refine (refValid_any x.k x.a x.b x.c x.d _ hk).mono ?_; rintro e w1 ⟨rfl, hb⟩; rw [HV.out]; have HB1 := Lib.hid hb; obtain ⟨b', o', ha', hbl1, e0, e1, e2, e3, e4⟩ := (HS.out.below hb).at HX.out; cases ha'; clear hb) | (go_at_call_of 37 x.k; refine (rtarget_any x.k x.a x.b x.c x.d _).mono ?_; rintro e w2 ⟨rfl, hb⟩; rw [HT.out]; have HB2 := Lib.hid (below_on HB1.out hb); obtain ⟨b2, o2, ha2, hbl2, g0, g1, g2, g3, g4⟩ := (HS.out.below HB2.out).at HY.out; cases ha2; clear hb) | (go_at_call_of 36 y.k; refine (refValid_any y.k y.a y.b y.c y.d _ hky).mono ?_; rintro e w3 ⟨rfl, hb⟩; rw [HVY.out]; have HB3 := Lib.hid (below_on HB2.out hb); obtain ⟨b3, o3, ha3, hbl3, z0, z1, z2, z3, z4⟩ := (HS.out.below HB3.out).at HY.out; cases ha3; clear hb) | (go_at_call_of 37 y.k; refine (rtarget_any y.k y.a y.b y.c y.d _).mono ?_; rintro e w4 ⟨rfl, hb⟩; rw [HTY.out]; have HB4 := Lib.hid (below_on HB3.out hb); obtain ⟨b4, o4, ha4, hbl4, z0, z1, z2, z3, z4⟩ := (HS.out.below HB4.out).at HY.out; obtain ⟨b5, o5, ha5, hbl5, u0, u1, u2, u3, u4⟩ := (HS.out.below HB4.out).at HX.out; cases ha4; cases ha5; clear hb))
      go_quiet (fail)
      rw [if_neg hle, if_neg hle] at HV2
      have x1 : jmp y.k = true → lnd y.k = false ∧ (y.k == 32) = false := by unfold jmp lnd; simp; omega
      have x2 : lnd y.k = true → (y.k == 32) = false := by unfold lnd; simp; omega
      have hjq : ((j : Int) != (q : Int)) = decide (j ≠ q) := (by by_cases e : j = q; (subst e; simp); (have e2 : ¬ (j : Int) = (q : Int) := by omega); (have e3 : ((j : Int) != (q : Int)) = true := by simpa using e2); rw [e3]; simp [e])
      have HJQ := Lib.hid hjq
      clear hjq
      cases hja : jmp y.k <;> cases hlb : lnd x.k <;> cases hla : lnd y.k <;> cases hjb : jmp x.k <;> cases hne : decide (j ≠ q) <;> cases h32 : (y.k == 32) <;> cases h33 : (x.k == 33) <;> (first | (exfalso; have := x1 hja; simp_all; done) | (exfalso; have := x2 hla; simp_all; done) | skip)
      all_goals
        have HJA := Lib.hid hja
        have HLB := Lib.hid hlb
        have HLA := Lib.hid hla
        have HJB := Lib.hid hjb
        have hjq2 := HJQ.out.trans hne
        have hv3 := HV2.out
        unfold ops2 at hv3
        rw [hja, hlb, hla, hjb, hne, h32, h33] at hv3
        clear x1 x2
        subst hv3
        go_wp2_with (first | (go_at_call_of 38 y.k; refine (rjump_any _ _).mono ?_; rintro e w5 ⟨rfl, rfl⟩; rw [HJA.out]) | (go_at_call_of 39 x.k; refine (rland_any _ _).mono ?_; rintro e w5 ⟨rfl, rfl⟩; rw [HLB.out]) | (go_at_call_of 39 y.k; refine (rland_any _ _).mono ?_; rintro e w5 ⟨rfl, rfl⟩; rw [HLA.out]) | (go_at_call_of 38 x.k; refine (rjump_any _ _).mono ?_; rintro e w5 ⟨rfl, rfl⟩; rw [HJB.out]))
        go_ret
        exact ⟨ret_i64 (by rw [HRP.out]; rfl), below_drewN HB4.out _⟩
  · have hr : rp l j = -1 := rp_none fun q' hq => by
      obtain ⟨x', y', k1, k2, _, _, k5, k6⟩ := pr_data hq
      rw [hx] at k1; cases k1
      rw [ht] at k5
      have : q' = q := by omega
      subst this
      rw [hy] at k2; cases k2
      rw [ht'] at k6
      exact hti k6
    rw [hr]
    have hb1 : (t' != (j : Int)) = true := by simpa using hti
    have hb2 : (t' == (j : Int)) = false := by simpa using hti
    clear hv hr hx hy hvy ht ht'
    go_enter Tryd.func18, Tryd.ntmps18
    go_wp2_with (first | (go_at_call_of 36 x.k; refine (refValid_any x.k x.a x.b x.c x.d _ hk).mono ?_; rintro e w1 ⟨rfl, hb⟩; rw [HV.out]; have HB1 := Lib.hid hb; obtain ⟨b', o', ha', hbl1, e0, e1, e2, e3, e4⟩ := (HS.out.below hb).at HX.out; cases ha'; clear hb) | (go_at_call_of 37 x.k; refine (rtarget_any x.k x.a x.b x.c x.d _).mono ?_; rintro e w2 ⟨rfl, hb⟩; rw [HT.out]; have HB2 := Lib.hid (below_on HB1.out hb); obtain ⟨b2, o2, ha2, hbl2, g0, g1, g2, g3, g4⟩ := (HS.out.below HB2.out).at HY.out; cases ha2; clear hb) | (go_at_call_of 36 y.k; refine (refValid_any y.k y.a y.b y.c y.d _ hky).mono ?_; rintro e w3 ⟨rfl, hb⟩; rw [HVY.out]; have HB3 := Lib.hid (below_on HB2.out hb); obtain ⟨b3, o3, ha3, hbl3, z0, z1, z2, z3, z4⟩ := (HS.out.below HB3.out).at HY.out; cases ha3; clear hb) | (go_at_call_of 37 y.k; refine (rtarget_any y.k y.a y.b y.c y.d _).mono ?_; rintro e w4 ⟨rfl, hb⟩; rw [HTY.out]; have HB4 := Lib.hid (below_on HB3.out hb); obtain ⟨b4, o4, ha4, hbl4, z0, z1, z2, z3, z4⟩ := (HS.out.below HB4.out).at HY.out; obtain ⟨b5, o5, ha5, hbl5, u0, u1, u2, u3, u4⟩ := (HS.out.below HB4.out).at HX.out; cases ha4; cases ha5; clear hb))
    go_ret
    exact ⟨rfl, HB4.out⟩
end Go.Proofs.YtalkhkhnpplofaaDoor
