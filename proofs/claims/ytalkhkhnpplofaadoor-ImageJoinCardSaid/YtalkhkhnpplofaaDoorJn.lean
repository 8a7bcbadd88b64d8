/- Two images in sequence, the targets of the second one shifted. -/
import Derived.Test.YtalkhkhnpplofaaDoorRows
import Derived.WalkKit
import Derived.ProofKit
import Derived.OpenShut
import Derived.Below
import Derived.Lib.Hide
import Derived.Outline
import Derived.WalkLawsBesides
import Derived.WalkSpells
import Derived.WalkSmall
import Derived.IntWalk
import Derived.Deep.QuietTactic
import Derived.BigQuiet
import Derived.Deep.RegionHeld3
import Derived.StillTailTactics
import Derived.Handy
import Derived.Deep.Cut
import Derived.Deep.OwnRows
import Derived.Deep.RegionWith
import Derived.Test.YtalkhkhnpplofaaDoorMir
namespace Go.Proofs.YtalkhkhnpplofaaDoor
open Go.ChangeShapes Go.WideShapes Go.ChangeAt Go.RowKit
set_option linter.unusedSimpArgs false
set_option linter.unusedVariables false

def shI (by_ : Int) (x : Ins) : Ins := ⟨x.k, rta x.k x.a (tv x.k x.a x.b + by_), rtb x.k x.b (tv x.k x.a x.b + by_), x.c, x.d⟩
def sh (l : List Ins) (by_ : Int) : List Ins := l.map (shI by_)
theorem sh_len (l : List Ins) (t : Int) : (sh l t).length = l.length := by simp [sh]
theorem sh_at {l : List Ins} {t : Int} {i : Nat} : (sh l t)[i]? = (l[i]?).map (shI t) := by unfold sh; rw [List.getElem?_map]
theorem shI_tgt (t : Int) (x : Ins) (h : tb x.k = true) : tgt (shI t x) = tgt x + t := by
  show tv x.k (rta x.k x.a _) (rtb x.k x.b _) = _
  rw [tv_re _ _ _ _ h]; rfl
def J (a b : List Ins) : List Ins := a ++ sh b a.length
theorem J_len (a b : List Ins) : (J a b).length = a.length + b.length := by unfold J; rw [List.length_append, sh_len]
theorem J_l {a b : List Ins} {i : Nat} (h : i < a.length) : (J a b)[i]? = a[i]? := by unfold J; rw [List.getElem?_append_left h]
theorem J_r {a b : List Ins} (i : Nat) : (J a b)[a.length + i]? = (b[i]?).map (shI a.length) := by
  unfold J; rw [List.getElem?_append_right (by omega), show a.length + i - a.length = i by omega, sh_at]
theorem J_cases {a b : List Ins} {i : Nat} {x : Ins} (h : (J a b)[i]? = some x) : (i < a.length ∧ a[i]? = some x) ∨ ∃ i' y, i = a.length + i' ∧ b[i']? = some y ∧ x = shI a.length y := by
  rcases Nat.lt_or_ge i a.length with hi | hi
  · rw [J_l hi] at h; exact .inl ⟨hi, h⟩
  · obtain ⟨i', rfl⟩ : ∃ i', i = a.length + i' := ⟨i - a.length, by omega⟩
    rw [J_r] at h
    cases hb : b[i']? with
    | none => rw [hb] at h; cases h
    | some y => rw [hb] at h; exact .inr ⟨i', y, rfl, hb, (Option.some.inj h).symm⟩
/-- the target itself lies in the image -/
theorem Wd.tgt_in {l : List Ins} (h : Wd l) {i : Nat} {x : Ins} (hx : l[i]? = some x) (ht : tb x.k = true) : 0 ≤ tv x.k x.a x.b ∧ tv x.k x.a x.b < l.length := by
  rcases tb_cases ht with hr | hk
  · obtain ⟨j, hj⟩ := h.pair i x hx hr
    have hl := hj.lt
    obtain ⟨x', y, h1, _, _, _, h5, _⟩ := hj
    rw [hx] at h1; cases h1
    have : tv x.k x.a x.b = j := h5
    omega
  · obtain ⟨p, e, hp, hs⟩ := h.call i x hx hk
    have ha : tv x.k x.a x.b = x.a := by rcases hk with hk | hk <;> rw [hk] <;> rfl
    have := hs.lt
    omega
theorem shI_vld {l : List Ins} (h : Wd l) {i : Nat} {x : Ins} (hx : l[i]? = some x) {t : Nat} (ht : t + l.length ≤ 65536) : vld (shI t x) = true := by
  unfold vld shI
  refine valid_re _ _ _ _ _ _ (h.vl i x hx) fun hb => ?_
  have := h.tgt_in hx hb
  omega
theorem J_pr_l {a b : List Ins} {i j : Nat} (h : PR a i j) : PR (J a b) i j := by
  have hl := h.lt
  obtain ⟨x, y, h1, h2, h3⟩ := h
  exact ⟨x, y, by rw [J_l hl.1]; exact h1, by rw [J_l hl.2]; exact h2, h3⟩
theorem J_pr_r {a b : List Ins} (hb : Wd b) (hn : a.length + b.length ≤ 65536) {i j : Nat} (h : PR b i j) : PR (J a b) (a.length + i) (a.length + j) := by
  obtain ⟨x, y, h1, h2, h3, h4, h5, h6, h7, h8, h9, h10⟩ := h
  have hyr : rol y.k ≠ 0 := by rw [h8]; exact (opp_opp _ (rol_ne h7)).2
  refine ⟨shI a.length x, shI a.length y, by rw [J_r, h1]; rfl, by rw [J_r, h2]; rfl, shI_vld hb h1 hn, shI_vld hb h2 hn, ?_, ?_, h7, h8, fun e => ?_, fun e => ?_⟩
  · rw [shI_tgt _ _ (tb_rol h7), h5]; omega
  · rw [shI_tgt _ _ (tb_rol hyr), h6]; omega
  · have := h9 e; omega
  · have := h10 e; omega
theorem J_pr {a b : List Ins} (ha : Wd a) (hb : Wd b) (hn : a.length + b.length ≤ 65536) {i j : Nat} (h : PR (J a b) i j) : PR a i j ∨ ∃ i' j', i = a.length + i' ∧ j = a.length + j' ∧ PR b i' j' := by
  obtain ⟨x, hx⟩ : ∃ x, (J a b)[i]? = some x := ⟨_, List.getElem?_eq_getElem h.lt.1⟩
  have hr := pr_role h hx
  rcases J_cases hx with ⟨hi, hx1⟩ | ⟨i', y, rfl, hy, rfl⟩
  · obtain ⟨q, hq⟩ := ha.pair i x hx1 hr
    have := h.fun (J_pr_l hq)
    subst this
    exact .inl hq
  · obtain ⟨q, hq⟩ := hb.pair i' y hy hr
    have := h.fun (J_pr_r (a := a) hb hn hq)
    subst this
    exact .inr ⟨i', q, rfl, rfl, hq⟩
theorem J_st_l {a b : List Ins} {s e : Nat} (h : St a s e) : St (J a b) s e := ⟨J_pr_l h.1, by rw [J_l h.1.lt.1]; exact h.2⟩
theorem J_st_r {a b : List Ins} (hb : Wd b) (hn : a.length + b.length ≤ 65536) {s e : Nat} (h : St b s e) : St (J a b) (a.length + s) (a.length + e) := by
  refine ⟨J_pr_r hb hn h.1, ?_⟩
  rw [J_r]
  have := h.2
  cases hx : b[s]? with
  | none => rw [hx] at this; cases this
  | some x => rw [hx] at this; exact this
theorem J_st {a b : List Ins} (ha : Wd a) (hb : Wd b) (hn : a.length + b.length ≤ 65536) {s e : Nat} (h : St (J a b) s e) : St a s e ∨ ∃ s' e', s = a.length + s' ∧ e = a.length + e' ∧ St b s' e' := by
  rcases J_pr ha hb hn h.1 with hp | ⟨s', e', rfl, rfl, hp⟩
  · refine .inl ⟨hp, ?_⟩
    have := h.2
    rwa [J_l hp.lt.1] at this
  · refine .inr ⟨s', e', rfl, rfl, hp, ?_⟩
    have := h.2
    rw [J_r] at this
    cases hx : b[s']? with
    | none => rw [hx] at this; cases this
    | some x => rw [hx] at this; exact this
theorem Wd.join {a b : List Ins} (ha : Wd a) (hb : Wd b) (hn : a.length + b.length ≤ 65536) : Wd (J a b) := by
  refine ⟨fun i x hx => ?_, fun i x hx hk => ?_, fun i x hx hr => ?_, fun s e s' e' hs hs' hlt => ?_, fun i j x hx hr hp s e hs => ?_⟩
  · rcases J_cases hx with ⟨_, hx⟩ | ⟨i', y, rfl, hy, rfl⟩
    · exact ha.vl i x hx
    · exact shI_vld hb hy hn
  · rcases J_cases hx with ⟨_, hx⟩ | ⟨i', y, rfl, hy, rfl⟩
    · obtain ⟨p, e, h1, h2⟩ := ha.call i x hx hk
      exact ⟨p, e, h1, J_st_l h2⟩
    · have hk' : y.k = 30 ∨ y.k = 31 := hk
      obtain ⟨p, e, h1, h2⟩ := hb.call i' y hy hk'
      refine ⟨a.length + p, a.length + e, ?_, J_st_r hb hn h2⟩
      have e1 : tv y.k y.a y.b = y.a := by rcases hk' with hk | hk <;> rw [hk] <;> rfl
      have e2 : rta y.k y.a (tv y.k y.a y.b + a.length) = tv y.k y.a y.b + a.length := by rcases hk' with hk | hk <;> rw [hk] <;> rfl
      show rta y.k y.a (tv y.k y.a y.b + a.length) = _
      rw [e2, e1, h1]; omega
  · rcases J_cases hx with ⟨_, hx⟩ | ⟨i', y, rfl, hy, rfl⟩
    · obtain ⟨q, hq⟩ := ha.pair i x hx hr
      exact ⟨q, J_pr_l hq⟩
    · obtain ⟨q, hq⟩ := hb.pair i' y hy hr
      exact ⟨_, J_pr_r hb hn hq⟩
  · rcases J_st ha hb hn hs with h1 | ⟨s1, e1, rfl, rfl, h1⟩
    · rcases J_st ha hb hn hs' with h2 | ⟨s2, e2, rfl, rfl, h2⟩
      · exact ha.disj _ _ _ _ h1 h2 hlt
      · have := h1.lt; omega
    · rcases J_st ha hb hn hs' with h2 | ⟨s2, e2, rfl, rfl, h2⟩
      · have := h2.lt; omega
      · have := hb.disj _ _ _ _ h1 h2 (by omega); omega
  · rcases J_pr ha hb hn hp with hq | ⟨i', j', rfl, rfl, hq⟩
    · have hx2 : a[i]? = some x := by rw [J_l hq.lt.1] at hx; exact hx
      rcases J_st ha hb hn hs with h1 | ⟨s1, e1, rfl, rfl, h1⟩
      · exact ha.jumps i j x hx2 hr hq s e h1
      · have := hq.lt; omega
    · rw [J_r] at hx
      cases hy : b[i']? with
      | none => rw [hy] at hx; cases hx
      | some y =>
        rw [hy] at hx
        have hxy : shI a.length y = x := Option.some.inj hx
        have hr' : rol y.k = 1 ∨ rol y.k = 2 := by rw [← hxy] at hr; exact hr
        rcases J_st ha hb hn hs with h1 | ⟨s1, e1, rfl, rfl, h1⟩
        · have := h1.lt; omega
        · have := hb.jumps i' j' y hy hr' hq s1 e1 h1; omega
theorem part_of_none {l : List Ins} {i : Nat} (h : ∀ j, ¬ PR l i j) : part l i = none := by
  cases hp : part l i with
  | none => rfl
  | some t => obtain ⟨j, _, hj⟩ := (part_iff l i t).1 hp; exact absurd hj (h j)
theorem J_invI_l {a b : List Ins} (ha : Wd a) {i : Nat} {x : Ins} (hx : a[i]? = some x) : invI (J a b) x = shI b.length (invI a x) := by
  have hT : tb x.k = true → invT (J a b) x = invT a x := fun ht => by
    unfold invT
    by_cases hk : x.k = 30 ∨ x.k = 31
    · rw [if_pos hk, if_pos hk]
      obtain ⟨p, e, h1, h2⟩ := ha.call i x hx hk
      have ht : tv x.k x.a x.b = p := by rw [← h1]; rcases hk with hk | hk <;> rw [hk] <;> rfl
      rw [ht, (part_iff _ _ (e : Int)).2 ⟨e, rfl, h2.1⟩, (part_iff _ _ (e : Int)).2 ⟨e, rfl, J_pr_l h2.1⟩]
    · rw [if_neg hk, if_neg hk]
  cases hb : tb x.k
  · have hb2 : tb (invO x.k) = false := by rw [inv_tb]; exact hb
    unfold invI shI
    simp only
    rw [rta_no hb, rtb_no hb, rta_no hb, rtb_no hb, rta_no hb2, rtb_no hb2]
  · have e : tv (invO x.k) (rta x.k x.a ((a.length : Int) - 1 - invT a x)) (rtb x.k x.b ((a.length : Int) - 1 - invT a x)) = (a.length : Int) - 1 - invT a x := by rw [inv_tv]; exact tv_re _ _ _ _ hb
    unfold invI shI
    simp only
    rw [e, hT hb, J_len, rta_inv, rtb_inv, re_re, re_reb, show ((a.length + b.length : Nat) : Int) - 1 - invT a x = (a.length : Int) - 1 - invT a x + b.length by omega]
theorem J_invI_r {a b : List Ins} (hb : Wd b) (hn : a.length + b.length ≤ 65536) {i : Nat} {y : Ins} (hy : b[i]? = some y) : invI (J a b) (shI a.length y) = invI b y := by
  cases ht : tb y.k
  · unfold invI shI
    simp only
    rw [rta_no ht, rtb_no ht, rta_no ht, rtb_no ht, rta_no ht, rtb_no ht]
  · have hT : invT (J a b) (shI a.length y) = invT b y + a.length := by
      have htg : tv (shI a.length y).k (shI a.length y).a (shI a.length y).b = tv y.k y.a y.b + a.length := tv_re _ _ _ _ ht
      unfold invT
      rw [htg]
      by_cases hk : y.k = 30 ∨ y.k = 31
      · rw [if_pos (show (shI a.length y).k = 30 ∨ (shI a.length y).k = 31 from hk), if_pos hk]
        obtain ⟨p, e, h1, h2⟩ := hb.call i y hy hk
        have ht : tv y.k y.a y.b = p := by rw [← h1]; rcases hk with hk | hk <;> rw [hk] <;> rfl
        rw [ht, show (p : Int) + a.length = ((a.length + p : Nat) : Int) by omega, (part_iff _ _ (e : Int)).2 ⟨e, rfl, h2.1⟩, (part_iff _ _ ((a.length + e : Nat) : Int)).2 ⟨_, rfl, J_pr_r hb hn h2.1⟩]
        simp only [Option.getD_some]
        omega
      · rw [if_neg (show ¬ ((shI a.length y).k = 30 ∨ (shI a.length y).k = 31) from hk), if_neg hk]
    unfold invI
    rw [hT, J_len, show ((a.length + b.length : Nat) : Int) - 1 - (invT b y + a.length) = (b.length : Int) - 1 - invT b y by omega]
    show Ins.mk (invO y.k) (rta y.k (rta y.k y.a _) _) (rtb y.k (rtb y.k y.b _) _) y.c y.d = _
    rw [re_re, re_reb]
theorem J_inv {a b : List Ins} (ha : Wd a) (hb : Wd b) (hn : a.length + b.length ≤ 65536) : invL (J a b) = invL b ++ sh (invL a) b.length := by
  have h1 : (a.map (invI (J a b))) = a.map (fun x => shI b.length (invI a x)) := by
    refine List.ext_getElem? fun i => ?_
    rw [List.getElem?_map, List.getElem?_map]
    cases hx : a[i]? with
    | none => rfl
    | some x => simp only [Option.map_some]; rw [J_invI_l ha hx]
  have h2 : ((sh b a.length).map (invI (J a b))) = b.map (invI b) := by
    refine List.ext_getElem? fun i => ?_
    rw [List.getElem?_map, List.getElem?_map, sh_at]
    cases hx : b[i]? with
    | none => rfl
    | some x => simp only [Option.map_some]; rw [J_invI_r hb hn hx]
  have h0 : invL (J a b) = ((a ++ sh b a.length).map (invI (J a b))).reverse := rfl
  rw [h0, List.map_append, List.reverse_append, h1, h2]
  unfold invL sh
  rw [List.map_reverse, List.map_map]
  rfl
theorem sh_wf {l : List Ins} (h : WF l) (t : Int) : WF (sh l t) := fun y hy => by
  obtain ⟨x, hx, rfl⟩ := List.mem_map.1 hy
  exact h x hx
theorem J_wf {a b : List Ins} (ha : WF a) (hb : WF b) : WF (J a b) := fun y hy => by
  rcases List.mem_append.1 hy with h | h
  · exact ha y h
  · exact sh_wf hb _ y h
end Go.Proofs.YtalkhkhnpplofaaDoor
