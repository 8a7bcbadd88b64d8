/- The inverse of an image without faults, in plain words. -/
import Derived.Test.YtalkhkhnpplofaaDoorRows
import Derived.WalkKit
import Derived.ProofKit
import Derived.OpenShut
import Derived.Below
import Derived.Lib.Hide
import Derived.Outline
import Derived.WalkLawsBesides
import Derived.WalkSpells
import Derived.WalkSmall
import Derived.IntWalk
import Derived.Deep.QuietTactic
import Derived.BigQuiet
import Derived.Deep.RegionHeld3
import Derived.StillTailTactics
import Derived.Handy
import Derived.Deep.Cut
import Derived.Deep.OwnRows
import Derived.Deep.RegionWith
import Derived.Test.YtalkhkhnpplofaaDoorWd
namespace Go.Proofs.YtalkhkhnpplofaaDoor
open Go.ChangeShapes Go.WideShapes Go.ChangeAt Go.RowKit
set_option linter.unusedSimpArgs false
set_option linter.unusedVariables false

theorem rol_inv (k : Int) : rol (invO k) = opp (rol k) := by
  by_cases hk : k ≠ 22 ∧ k ≠ 23 ∧ k ≠ 24 ∧ k ≠ 25 ∧ k ≠ 26 ∧ k ≠ 27 ∧ k ≠ 32 ∧ k ≠ 33
  · have h0 : rol k = 0 := rol_other k hk
    have key : ∀ c : Int, invO c ≠ k → invO k ≠ c := fun c h e => h (by rw [← e]; exact inv_inv k)
    have h1 : rol (invO k) = 0 := rol_other _ ⟨key 22 (by show (25 : Int) ≠ k; omega), key 23 (by show (26 : Int) ≠ k; omega), key 24 (by show (27 : Int) ≠ k; omega), key 25 (by show (22 : Int) ≠ k; omega), key 26 (by show (23 : Int) ≠ k; omega), key 27 (by show (24 : Int) ≠ k; omega), key 32 (by show (33 : Int) ≠ k; omega), key 33 (by show (32 : Int) ≠ k; omega)⟩
    rw [h0, h1]; rfl
  · rcases (by omega : k = 22 ∨ k = 23 ∨ k = 24 ∨ k = 25 ∨ k = 26 ∨ k = 27 ∨ k = 32 ∨ k = 33) with rfl | rfl | rfl | rfl | rfl | rfl | rfl | rfl <;> rfl
theorem valid_a (k a b c d u : Int) (hk : tg k = 0) (h : validB k a b c d = true) (hu : 0 ≤ u ∧ u ≤ 65535) : validB k u b c d = true := by
  have hcl : clsOk 116 u = true := by show decide (0 ≤ u ∧ u ≤ 65535) = true; exact decide_eq_true hu
  have hk6 : k = 22 ∨ k = 25 ∨ k = 30 ∨ k = 31 ∨ k = 32 ∨ k = 33 := by
    unfold tg at hk
    split at hk
    · assumption
    · split at hk <;> omega
  unfold validB at h ⊢
  simp only [Bool.and_eq_true] at h ⊢
  rcases hk6 with rfl | rfl | rfl | rfl | rfl | rfl <;> exact ⟨h.1, hcl, h.2.2.1, h.2.2.2.1, h.2.2.2.2.1, rfl⟩
theorem valid_b (k a b c d u : Int) (hk : tg k = 1) (h : validB k a b c d = true) (hu : 0 ≤ u ∧ u ≤ 65535) : validB k a u c d = true := by
  have hcl : clsOk 116 u = true := by show decide (0 ≤ u ∧ u ≤ 65535) = true; exact decide_eq_true hu
  have hk6 : k = 23 ∨ k = 24 ∨ k = 26 ∨ k = 27 := by
    unfold tg at hk
    split at hk
    · omega
    · split at hk
      · assumption
      · omega
  unfold validB at h ⊢
  simp only [Bool.and_eq_true] at h ⊢
  rcases hk6 with rfl | rfl | rfl | rfl <;> exact ⟨h.1, h.2.1, hcl, h.2.2.2.1, h.2.2.2.2.1, rfl⟩
/-- a valid instruction with another target is valid -/
theorem valid_re (k a b c d u : Int) (h : validB k a b c d = true) (hu : tb k = true → 0 ≤ u ∧ u ≤ 65535) : validB k (rta k a u) (rtb k b u) c d = true := by
  rcases tg_cases k with ht | ht | ht
  · have e1 : rta k a u = u := by unfold rta; rw [if_pos ht]
    have e2 : rtb k b u = b := by unfold rtb; rw [if_neg (by omega)]
    rw [e1, e2]
    exact valid_a k a b c d u ht h (hu (by unfold tb; simp [ht]))
  · have e1 : rta k a u = a := by unfold rta; rw [if_neg (by omega)]
    have e2 : rtb k b u = u := by unfold rtb; rw [if_pos ht]
    rw [e1, e2]
    exact valid_b k a b c d u ht h (hu (by unfold tb; simp [ht]))
  · have e1 : rta k a u = a := by unfold rta; rw [if_neg (by omega)]
    have e2 : rtb k b u = b := by unfold rtb; rw [if_neg (by omega)]
    rw [e1, e2]
    exact h
theorem tv_re (k a b u : Int) (h : tb k = true) : tv k (rta k a u) (rtb k b u) = u := by
  unfold tb at h
  have := of_decide_eq_true h
  unfold tv rta rtb
  rcases this with ht | ht
  · rw [if_pos ht, if_pos ht]
  · rw [if_neg (by omega), if_pos ht, if_pos ht]
theorem re_re (k a u v : Int) : rta k (rta k a u) v = rta k a v := by unfold rta; split <;> rfl
theorem re_reb (k a u v : Int) : rtb k (rtb k a u) v = rtb k a v := by unfold rtb; split <;> rfl
theorem rta_inv (k a u : Int) : rta (invO k) a u = rta k a u := by unfold rta; rw [inv_tg]
theorem rtb_inv (k a u : Int) : rtb (invO k) a u = rtb k a u := by unfold rtb; rw [inv_tg]
theorem rta_self (k a b : Int) : rta k a (tv k a b) = a := by
  unfold rta tv
  split
  · rfl
  · rfl
theorem rtb_self (k a b : Int) : rtb k b (tv k a b) = b := by
  unfold rtb tv
  by_cases h1 : tg k = 1
  · rw [if_pos h1, if_neg (by omega), if_pos h1]
  · rw [if_neg h1]
theorem tb_rol {k : Int} (h : rol k ≠ 0) : tb k = true := by
  by_cases hk : k ≠ 22 ∧ k ≠ 23 ∧ k ≠ 24 ∧ k ≠ 25 ∧ k ≠ 26 ∧ k ≠ 27 ∧ k ≠ 32 ∧ k ≠ 33
  · exact absurd (rol_other k hk) h
  · rcases (by omega : k = 22 ∨ k = 23 ∨ k = 24 ∨ k = 25 ∨ k = 26 ∨ k = 27 ∨ k = 32 ∨ k = 33) with rfl | rfl | rfl | rfl | rfl | rfl | rfl | rfl <;> rfl
theorem rol_call {k : Int} (h : k = 30 ∨ k = 31) : rol k = 0 := rol_other k (by omega)
theorem invO_call {k : Int} (h : k = 30 ∨ k = 31) : invO k = k := by rcases h with rfl | rfl <;> rfl
theorem tb_cases {k : Int} (h : tb k = true) : rol k ≠ 0 ∨ k = 30 ∨ k = 31 := by
  unfold tb at h
  have := of_decide_eq_true h
  unfold tg at this
  by_cases hk : k = 30 ∨ k = 31
  · exact .inr hk
  · refine .inl ?_
    have hk8 : k = 22 ∨ k = 25 ∨ k = 32 ∨ k = 33 ∨ k = 23 ∨ k = 24 ∨ k = 26 ∨ k = 27 := by
      rcases this with h1 | h1
      · split at h1
        · omega
        · split at h1 <;> omega
      · split at h1
        · omega
        · split at h1 <;> omega
    rcases hk8 with rfl | rfl | rfl | rfl | rfl | rfl | rfl | rfl <;> decide
/-- the target of an instruction of an image without faults lies in the image -/
theorem Wd.target {l : List Ins} (h : Wd l) {i : Nat} {x : Ins} (hx : l[i]? = some x) (ht : tb x.k = true) : ∃ q : Nat, invT l x = q ∧ q < l.length := by
  unfold invT
  rcases tb_cases ht with hr | hk
  · have hk : ¬ (x.k = 30 ∨ x.k = 31) := fun e => hr (rol_call e)
    rw [if_neg hk]
    obtain ⟨j, hj⟩ := h.pair i x hx hr
    have hl := hj.lt
    obtain ⟨x', y, h1, _, _, _, h5, _⟩ := hj
    rw [hx] at h1; cases h1
    exact ⟨j, h5, hl.2⟩
  · rw [if_pos hk]
    obtain ⟨p, e, hp, hs⟩ := h.call i x hx hk
    have ha : tv x.k x.a x.b = x.a := by
      rcases hk with hk | hk <;> rw [hk] <;> rfl
    rw [ha, hp, (part_iff l p (e : Int)).2 ⟨e, rfl, hs.1⟩]
    exact ⟨e, rfl, hs.lt.2⟩
theorem invI_vld {l : List Ins} (h : Wd l) (hn : l.length ≤ 65536) {i : Nat} {x : Ins} (hx : l[i]? = some x) : vld (invI l x) = true := by
  unfold vld invI
  rw [inv_valid]
  refine valid_re _ _ _ _ _ _ (h.vl i x hx) fun ht => ?_
  obtain ⟨q, hq, hl⟩ := h.target hx ht
  omega
theorem invI_tgt {l : List Ins} (x : Ins) (ht : tb x.k = true) : tgt (invI l x) = (l.length : Int) - 1 - invT l x := by
  unfold tgt invI
  rw [inv_tv]
  exact tv_re _ _ _ _ ht
theorem invL_back {l : List Ins} {q : Nat} {y : Ins} (hy : (invL l)[q]? = some y) : ∃ x, l[l.length - 1 - q]? = some x ∧ y = invI l x ∧ q < l.length := by
  have hq : q < l.length := by have := lt_len hy; rw [invL_len] at this; exact this
  obtain ⟨x, hx⟩ : ∃ x, l[l.length - 1 - q]? = some x := ⟨_, List.getElem?_eq_getElem (by omega)⟩
  have := invL_at hx
  rw [show l.length - 1 - (l.length - 1 - q) = q by omega, hy] at this
  exact ⟨x, hx, Option.some.inj this, hq⟩
theorem Wd.pr {l : List Ins} (h : Wd l) (hn : l.length ≤ 65536) {i j : Nat} (hp : PR l i j) : PR (invL l) (l.length - 1 - i) (l.length - 1 - j) := by
  have hl := hp.lt
  obtain ⟨x, y, h1, h2, h3, h4, h5, h6, h7, h8, h9, h10⟩ := hp
  have hyr : rol y.k ≠ 0 := by rw [h8]; exact (opp_opp _ (rol_ne h7)).2
  have hT : ∀ {z : Ins} {t : Nat}, rol z.k ≠ 0 → tgt z = t → invT l z = t := fun {z t} hz ht => by
    unfold invT; rw [if_neg (fun e => hz (rol_call e))]; exact ht
  refine ⟨invI l x, invI l y, invL_at h1, invL_at h2, invI_vld h hn h1, invI_vld h hn h2, ?_, ?_, ?_, ?_, ?_, ?_⟩
  · rw [invI_tgt x (tb_rol h7), hT h7 h5]; omega
  · rw [invI_tgt y (tb_rol hyr), hT hyr h6]; omega
  · show rol (invO x.k) ≠ 0
    rw [rol_inv]; exact (opp_opp _ (rol_ne h7)).2
  · show rol (invO y.k) = opp (rol (invO x.k))
    rw [rol_inv, rol_inv, h8]
  · intro e
    have e' : opp (rol x.k) = 3 := by rw [← rol_inv]; exact e
    have : rol x.k = 4 := by rcases rol_ne h7 with r | r | r | r <;> rw [r] at e' <;> first | exact r | exact absurd e' (by decide)
    have := h10 this
    omega
  · intro e
    have e' : opp (rol x.k) = 4 := by rw [← rol_inv]; exact e
    have : rol x.k = 3 := by rcases rol_ne h7 with r | r | r | r <;> rw [r] at e' <;> first | exact r | exact absurd e' (by decide)
    have := h9 this
    omega
theorem Wd.rp {l : List Ins} (h : Wd l) (hn : l.length ≤ 65536) {i j : Nat} (hp : PR (invL l) i j) : PR l (l.length - 1 - i) (l.length - 1 - j) := by
  have hl := hp.lt
  rw [invL_len] at hl
  obtain ⟨y, h1⟩ : ∃ y, (invL l)[i]? = some y := ⟨_, List.getElem?_eq_getElem (by rw [invL_len]; exact hl.1)⟩
  have hr := pr_role hp h1
  obtain ⟨x, hx, rfl, _⟩ := invL_back h1
  have hrx : rol x.k ≠ 0 := by
    intro e
    apply hr
    show rol (invO x.k) = 0
    rw [rol_inv, e]; rfl
  obtain ⟨q, hq⟩ := h.pair _ _ hx hrx
  have hq2 := h.pr hn hq
  rw [show l.length - 1 - (l.length - 1 - i) = i by omega] at hq2
  have := hp.fun hq2
  have hql := hq.lt.2
  rw [show l.length - 1 - j = q by omega]
  exact hq
theorem Wd.st {l : List Ins} (h : Wd l) (hn : l.length ≤ 65536) {s e : Nat} (hs : St l s e) : St (invL l) (l.length - 1 - e) (l.length - 1 - s) := by
  refine ⟨(h.pr hn hs.1).symm, ?_⟩
  obtain ⟨x, y, h1, h2, h3, h4, h5, h6, h7, h8, h9, h10⟩ := hs.1
  have hk : x.k = 32 := by have := hs.2; rw [h1] at this; simpa using this
  have hy : y.k = 33 := (rol4 _).1 (by rw [h8, hk]; rfl)
  rw [invL_at h2]
  show some (invO y.k) = some 32
  rw [hy]; rfl
theorem Wd.ts {l : List Ins} (h : Wd l) (hn : l.length ≤ 65536) {s e : Nat} (hs : St (invL l) s e) : St l (l.length - 1 - e) (l.length - 1 - s) := by
  refine ⟨(h.rp hn hs.1).symm, ?_⟩
  have hl := hs.lt
  rw [invL_len] at hl
  obtain ⟨y, h1⟩ : ∃ y, (invL l)[s]? = some y := ⟨_, List.getElem?_eq_getElem (by rw [invL_len]; omega)⟩
  have hk : y.k = 32 := by have := hs.2; rw [h1] at this; simpa using this
  obtain ⟨x, hx, rfl, _⟩ := invL_back h1
  have hk' : invO x.k = 32 := hk
  have hx33 : x.k = 33 := by have := inv_inv x.k; rw [hk'] at this; exact this.symm
  have hp := h.rp hn hs.1
  obtain ⟨x', y', g1, g2, _, _, _, _, _, g8, _⟩ := hp
  rw [hx] at g1; cases g1
  rw [g2]
  rw [hx33] at g8
  simp only [Option.map_some, Option.some.injEq]
  exact (rol3 _).1 g8
theorem Wd.inv {l : List Ins} (h : Wd l) (hn : l.length ≤ 65536) : Wd (invL l) := by
  refine ⟨fun i y hy => ?_, fun i y hy hk => ?_, fun i y hy hr => ?_, fun s e s' e' hs hs' hlt => ?_, fun i j y hy hr hp s e hs => ?_⟩
  · obtain ⟨x, hx, rfl, _⟩ := invL_back hy
    exact invI_vld h hn hx
  · obtain ⟨x, hx, rfl, _⟩ := invL_back hy
    have hk' : invO x.k = 30 ∨ invO x.k = 31 := hk
    have hxk : x.k = 30 ∨ x.k = 31 := by
      have := inv_inv x.k
      rcases hk' with e | e <;> rw [e] at this
      · exact .inl this.symm
      · exact .inr this.symm
    obtain ⟨p, e, hp, hs⟩ := h.call _ x hx hxk
    refine ⟨l.length - 1 - e, l.length - 1 - p, ?_, h.st hn hs⟩
    have ha : tv x.k x.a x.b = x.a := by rcases hxk with hk | hk <;> rw [hk] <;> rfl
    have hT : invT l x = e := by unfold invT; rw [if_pos hxk, ha, hp, (part_iff l p (e : Int)).2 ⟨e, rfl, hs.1⟩]; rfl
    have hl := hs.lt
    show rta x.k x.a ((l.length : Int) - 1 - invT l x) = _
    rw [hT]
    have : rta x.k x.a ((l.length : Int) - 1 - e) = (l.length : Int) - 1 - e := by rcases hxk with hk | hk <;> rw [hk] <;> rfl
    rw [this]; omega
  · obtain ⟨x, hx, rfl, hi⟩ := invL_back hy
    have hrx : rol x.k ≠ 0 := by
      intro e
      apply hr
      show rol (invO x.k) = 0
      rw [rol_inv, e]; rfl
    obtain ⟨q, hq⟩ := h.pair _ _ hx hrx
    have := h.pr hn hq
    rw [show l.length - 1 - (l.length - 1 - i) = i by omega] at this
    exact ⟨_, this⟩
  · have h1 := h.ts hn hs
    have h2 := h.ts hn hs'
    have l1 := hs.lt
    have l2 := hs'.lt
    rw [invL_len] at l1 l2
    rcases Nat.lt_or_ge e s' with h5 | h5
    · exact h5
    · exfalso
      rcases Nat.lt_trichotomy e e' with h6 | h6 | h6
      · have := h.disj _ _ _ _ h2 h1 (by omega); omega
      · have := h2.fun (h6 ▸ h1); omega
      · have := h.disj _ _ _ _ h1 h2 (by omega); omega
  · obtain ⟨x, hx, rfl, hi⟩ := invL_back hy
    have hp' := h.rp hn hp
    have hr' : rol x.k = 1 ∨ rol x.k = 2 := by
      have hh : opp (rol x.k) = 1 ∨ opp (rol x.k) = 2 := by rw [← rol_inv]; exact hr
      rcases rol_cases x.k with r | r | r | r | r <;> rw [r] at hh ⊢ <;> first | exact absurd hh (by decide) | decide
    have := h.jumps _ _ x hx hr' hp' _ _ (h.ts hn hs)
    have l1 := hs.lt
    have l2 := hp.lt
    rw [invL_len] at l1 l2
    omega
/-- inverting twice -/
theorem Wd.twice {l : List Ins} (h : Wd l) (hn : l.length ≤ 65536) : invL (invL l) = l := by
  refine List.ext_getElem? fun i => ?_
  rcases Nat.lt_or_ge i l.length with hi | hi
  · obtain ⟨x, hx⟩ : ∃ x, l[i]? = some x := ⟨_, List.getElem?_eq_getElem hi⟩
    have h1 := invL_at hx
    have h2 := invL_at h1
    rw [invL_len, show l.length - 1 - (l.length - 1 - i) = i by omega] at h2
    rw [h2, hx]
    congr 1
    have hT : tb x.k = true → (l.length : Int) - 1 - invT (invL l) (invI l x) = tv x.k x.a x.b := fun ht => by
      rcases tb_cases ht with hr | hk
      · have hk : ¬ (x.k = 30 ∨ x.k = 31) := fun e => hr (rol_call e)
        have hk2 : ¬ ((invI l x).k = 30 ∨ (invI l x).k = 31) := fun e => by
          have e' : rol (invO x.k) = 0 := rol_call e
          rw [rol_inv] at e'
          exact (opp_opp _ (rol_ne hr)).2 e'
        have h3 := invI_tgt (l := l) x ht
        unfold invT
        rw [if_neg hk2]
        show (l.length : Int) - 1 - tgt (invI l x) = _
        rw [h3]
        unfold invT
        rw [if_neg hk]
        omega
      · obtain ⟨p, e, hp, hs⟩ := h.call i x hx hk
        have ha : tv x.k x.a x.b = x.a := by rcases hk with hk | hk <;> rw [hk] <;> rfl
        have hT : invT l x = e := by unfold invT; rw [if_pos hk, ha, hp, (part_iff l p (e : Int)).2 ⟨e, rfl, hs.1⟩]; rfl
        have hl := hs.lt
        have hk2 : (invI l x).k = 30 ∨ (invI l x).k = 31 := by show invO x.k = 30 ∨ invO x.k = 31; rw [invO_call hk]; exact hk
        have h3 := invI_tgt (l := l) x ht
        rw [ha, hp]
        unfold invT
        rw [if_pos hk2]
        show (l.length : Int) - 1 - ((part (invL l) (tgt (invI l x))).getD 0) = _
        rw [h3, hT, show (l.length : Int) - 1 - (e : Int) = ((l.length - 1 - e : Nat) : Int) by omega, (part_iff (invL l) _ ((l.length - 1 - p : Nat) : Int)).2 ⟨_, rfl, (h.st hn hs).1⟩]
        simp only [Option.getD_some]
        omega
    show Ins.mk (invO (invO x.k)) (rta (invO x.k) (rta x.k x.a _) ((invL l).length - 1 - invT (invL l) (invI l x))) (rtb (invO x.k) (rtb x.k x.b _) ((invL l).length - 1 - invT (invL l) (invI l x))) x.c x.d = x
    rw [inv_inv, rta_inv, rtb_inv, re_re, re_reb, invL_len]
    cases ht : tb x.k
    · rw [rta_no ht, rtb_no ht]
    · rw [hT ht, rta_self, rtb_self]
  · rw [List.getElem?_eq_none (by rw [invL_len, invL_len]; exact hi), List.getElem?_eq_none hi]
end Go.Proofs.YtalkhkhnpplofaaDoor
