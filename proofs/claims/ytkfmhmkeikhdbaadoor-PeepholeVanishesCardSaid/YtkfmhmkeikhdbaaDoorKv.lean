/- Code that is put in and vanishes: the theory. -/
import Derived.Test.YtkfmhmkeikhdbaaDoorKk
namespace Go.Proofs.YtkfmhmkeikhdbaaDoor
open Go.Proofs.YtkfmhmkeikhdbaaDoor.Pv Go.RowKit
set_option maxRecDepth 100000
set_option maxHeartbeats 4000000
set_option linter.unusedSimpArgs false
set_option linter.unusedVariables false
def sfI (k m : Nat) (t : Int) : Int := if t ≥ k then t + m else t
def dnI (k m i : Nat) : Nat := if i < k then i else i + m
theorem sf_dn (k m i : Nat) : sfI k m (i : Int) = ((dnI k m i : Nat) : Int) := by unfold sfI dnI; split <;> split <;> omega
theorem dn_lt {k m i j : Nat} : dnI k m i < dnI k m j ↔ i < j := by unfold dnI; split <;> split <;> omega
theorem dn_le {k m i j : Nat} : dnI k m i ≤ dnI k m j ↔ i ≤ j := by unfold dnI; split <;> split <;> omega
theorem sf_inj {k m : Nat} {a b : Int} : sfI k m a = sfI k m b ↔ a = b := by unfold sfI; split <;> split <;> omega
def fI (k m : Nat) (x : Ins) : Ins := rtI x (sfI k m (tgt x))
def putL (l B : List Ins) (k : Nat) : List Ins := (l.take k).map (fI k B.length) ++ B ++ (l.drop k).map (fI k B.length)
theorem put_len {l B : List Ins} {k : Nat} (h : k ≤ l.length) : (putL l B k).length = l.length + B.length := by
  unfold putL
  simp only [List.length_append, List.length_map, List.length_take, List.length_drop]
  omega
theorem put_at {l B : List Ins} {k : Nat} (h : k ≤ l.length) (i : Nat) : (putL l B k)[dnI k B.length i]? = (l[i]?).map (fI k B.length) := by
  unfold putL dnI
  by_cases hi : i < k
  · rw [if_pos hi, List.append_assoc, List.getElem?_append_left (by rw [List.length_map, List.length_take]; omega), List.getElem?_map, List.getElem?_take_of_lt hi]
  · rw [if_neg hi, List.getElem?_append_right (by simp only [List.length_append, List.length_map, List.length_take]; omega), List.getElem?_map, List.getElem?_drop]
    congr 2
    simp only [List.length_append, List.length_map, List.length_take]
    omega
theorem put_mid {l B : List Ins} {k : Nat} (h : k ≤ l.length) (i : Nat) (hi : i < B.length) : (putL l B k)[k + i]? = B[i]? := by
  unfold putL
  rw [List.getElem?_append_left (by simp only [List.length_append, List.length_map, List.length_take]; omega), List.getElem?_append_right (by simp only [List.length_map, List.length_take]; omega)]
  congr 1
  simp only [List.length_map, List.length_take]
  omega
theorem put_cases {l B : List Ins} {k : Nat} (q : Nat) : (∃ i, q = dnI k B.length i) ∨ ∃ i, q = k + i ∧ i < B.length := by
  by_cases h1 : q < k
  · exact .inl ⟨q, by unfold dnI; rw [if_pos h1]⟩
  · by_cases h2 : q < k + B.length
    · exact .inr ⟨q - k, by omega, by omega⟩
    · exact .inl ⟨q - B.length, by unfold dnI; rw [if_neg (by omega)]; omega⟩
theorem put_back {l B : List Ins} {k : Nat} (h : k ≤ l.length) {q : Nat} {z : Ins} (hz : (putL l B k)[q]? = some z) : (∃ i x, q = dnI k B.length i ∧ l[i]? = some x ∧ z = fI k B.length x) ∨ z ∈ B := by
  rcases put_cases (l := l) (B := B) (k := k) q with ⟨i, rfl⟩ | ⟨i, rfl, hi⟩
  · rw [put_at h] at hz
    obtain ⟨x, hx, e⟩ := Option.map_eq_some_iff.1 hz
    exact .inl ⟨i, x, rfl, hx, e.symm⟩
  · rw [put_mid h i hi] at hz
    exact .inr (List.mem_of_getElem? hz)
structure Ps (l B : List Ins) (k : Nat) : Prop where
  wd : Wd l
  le : k ≤ l.length
  len : l.length + B.length ≤ 65536
  bv : ∀ z ∈ B, tb z.k = false ∧ vld z = true
theorem Ps.vl {l B : List Ins} {k : Nat} (h : Ps l B k) {i : Nat} {x : Ins} (hx : l[i]? = some x) : vld (fI k B.length x) = true := by
  unfold vld fI rtI
  refine valid_re _ _ _ _ _ _ (h.wd.vl _ x hx) fun hb => ?_
  have h1 : 0 ≤ tgt x ∧ tgt x < l.length := h.wd.tgt_in hx hb
  have := h.len
  unfold sfI
  split <;> omega
theorem Ps.at {l B : List Ins} {k : Nat} (h : Ps l B k) {i : Nat} {x : Ins} (hx : l[i]? = some x) : (putL l B k)[dnI k B.length i]? = some (fI k B.length x) := by rw [put_at h.le, hx]; rfl
theorem Ps.pr_up {l B : List Ins} {k i j : Nat} (h : Ps l B k) (hp : PR l i j) : PR (putL l B k) (dnI k B.length i) (dnI k B.length j) := by
  obtain ⟨x, y, h1, h2, h3, h4, h5, h6, h7, h8, h9, h10⟩ := hp
  have hyr : rol y.k ≠ 0 := by rw [h8]; exact (opp_opp _ (rol_ne h7)).2
  refine ⟨_, _, h.at h1, h.at h2, h.vl h1, h.vl h2, ?_, ?_, h7, h8, fun e => dn_lt.2 (h9 e), fun e => dn_lt.2 (h10 e)⟩
  · show tgt (rtI x _) = _
    rw [rtI_tgt _ _ (tb_rol h7), h5, sf_dn]
  · show tgt (rtI y _) = _
    rw [rtI_tgt _ _ (tb_rol hyr), h6, sf_dn]
theorem Ps.pr_dn {l B : List Ins} {k p q : Nat} (h : Ps l B k) (hp : PR (putL l B k) p q) : ∃ i j, p = dnI k B.length i ∧ q = dnI k B.length j ∧ PR l i j := by
  obtain ⟨z, hz⟩ : ∃ z, (putL l B k)[p]? = some z := ⟨_, List.getElem?_eq_getElem hp.lt.1⟩
  have hr := pr_role hp hz
  rcases put_back h.le hz with ⟨i, x, rfl, hx, rfl⟩ | hb
  · obtain ⟨j, hj⟩ := h.wd.pair i x hx hr
    exact ⟨i, j, rfl, hp.fun (h.pr_up hj), hj⟩
  · have := (h.bv z hb).1
    rw [tb_rol hr] at this
    cases this
theorem Ps.st_up {l B : List Ins} {k s e : Nat} (h : Ps l B k) (hs : St l s e) : St (putL l B k) (dnI k B.length s) (dnI k B.length e) := by
  refine ⟨h.pr_up hs.1, ?_⟩
  rw [put_at h.le]
  have := hs.2
  cases hx : l[s]? with
  | none => rw [hx] at this; cases this
  | some x => rw [hx] at this; exact this
theorem Ps.st_dn {l B : List Ins} {k p q : Nat} (h : Ps l B k) (hs : St (putL l B k) p q) : ∃ s e, p = dnI k B.length s ∧ q = dnI k B.length e ∧ St l s e := by
  obtain ⟨s, e, rfl, rfl, hp⟩ := h.pr_dn hs.1
  refine ⟨s, e, rfl, rfl, hp, ?_⟩
  have := hs.2
  rw [put_at h.le] at this
  cases hx : l[s]? with
  | none => rw [hx] at this; cases this
  | some x => rw [hx] at this; exact this
theorem dn_inj {k m i j : Nat} (h : dnI k m i = dnI k m j) : i = j := by unfold dnI at h; split at h <;> split at h <;> omega
theorem Ps.wd_put {l B : List Ins} {k : Nat} (h : Ps l B k) : Wd (putL l B k) := by
  refine ⟨fun i z hz => ?_, fun i z hz hk => ?_, fun i z hz hr => ?_, fun s e s' e' hs hs' hlt => ?_, fun i j z hz hr hp s e hs => ?_⟩
  · rcases put_back h.le hz with ⟨i, x, rfl, hx, rfl⟩ | hb
    · exact h.vl hx
    · exact (h.bv z hb).2
  · rcases put_back h.le hz with ⟨i, x, rfl, hx, rfl⟩ | hb
    · have hk' : x.k = 30 ∨ x.k = 31 := hk
      obtain ⟨p, e, h1, h2⟩ := h.wd.call _ x hx hk'
      refine ⟨_, _, ?_, h.st_up h2⟩
      have e1 : tgt x = x.a := by unfold tgt; rcases hk' with hk | hk <;> rw [hk] <;> rfl
      have e2 : ∀ v, rta x.k x.a v = v := fun v => by rcases hk' with hk | hk <;> rw [hk] <;> rfl
      show rta x.k x.a (sfI k B.length (tgt x)) = _
      rw [e2, e1, h1, sf_dn]
    · have := (h.bv z hb).1
      rcases hk with hk | hk <;> rw [hk] at this <;> cases this
  · rcases put_back h.le hz with ⟨i, x, rfl, hx, rfl⟩ | hb
    · obtain ⟨q, hq⟩ := h.wd.pair _ x hx hr
      exact ⟨_, h.pr_up hq⟩
    · have := (h.bv z hb).1
      rw [tb_rol hr] at this
      cases this
  · obtain ⟨s, e, rfl, rfl, h1⟩ := h.st_dn hs
    obtain ⟨s', e', rfl, rfl, h2⟩ := h.st_dn hs'
    exact dn_lt.2 (h.wd.disj _ _ _ _ h1 h2 (dn_lt.1 hlt))
  · obtain ⟨i, j, rfl, rfl, h1⟩ := h.pr_dn hp
    obtain ⟨s, e, rfl, rfl, h2⟩ := h.st_dn hs
    rw [put_at h.le] at hz
    obtain ⟨x, hx, rfl⟩ := Option.map_eq_some_iff.1 hz
    have := h.wd.jumps _ _ x hx hr h1 _ _ h2
    simpa only [dn_le] using this
theorem put_wf {l B : List Ins} (h : WF l) (hB : WF B) (k : Nat) : WF (putL l B k) := fun z hz => by
  unfold putL at hz
  rcases List.mem_append.1 hz with hz | hz
  · rcases List.mem_append.1 hz with hz | hz
    · obtain ⟨x, hx, rfl⟩ := List.mem_map.1 hz
      exact h x (List.mem_of_mem_take hx)
    · exact hB z hz
  · obtain ⟨x, hx, rfl⟩ := List.mem_map.1 hz
    exact h x (List.mem_of_mem_drop hx)
def sig (k m : Nat) (p : Ins × Int) : Ins × Int := (fI k m p.1, if p.2 = -1 then -1 else sfI k m p.2)
theorem sig_lc (k m : Nat) (a b : Ins × Int) : lc (sig k m a) (sig k m b) = lc a b := by
  have key : ∀ v : Int, ((if v = -1 then (-1 : Int) else sfI k m v) == -1) = (v == -1) := fun v => by
    rw [Bool.eq_iff_iff, beq_iff_eq, beq_iff_eq]
    unfold sfI
    split
    · exact ⟨fun _ => by assumption, fun _ => rfl⟩
    · split <;> omega
  unfold lc sig fI
  simp only [can_rtI, key]
theorem red_map {α : Type} {c : α → α → Bool} (f : α → α) (hf : ∀ a b, c (f a) (f b) = c a b) (w : List α) : red c (w.map f) = (red c w).map f := by
  have hp : ∀ (st : List α) (a : α), psh c (st.map f) (f a) = (psh c st a).map f := fun st a => by
    cases st with
    | nil => rfl
    | cons t r =>
      simp only [psh, List.map_cons, hf]
      split <;> simp
  have key : ∀ (w st : List α), (w.map f).foldl (psh c) (st.map f) = (w.foldl (psh c) st).map f := by
    intro w
    induction w with
    | nil => intro st; rfl
    | cons a w ih => intro st; rw [List.map_cons, List.foldl_cons, List.foldl_cons, hp, ih]
  unfold red
  have := key w []
  rw [List.map_nil] at this
  rw [this, List.map_reverse]
theorem lw_put {l B : List Ins} {k : Nat} (h : k ≤ l.length) (hB : ∀ z ∈ B, tb z.k = false) : lw (putL l B k) = ((lw l).take k).map (sig k B.length) ++ B.map (fun x => (x, (-1 : Int))) ++ ((lw l).drop k).map (sig k B.length) := by
  have hl := lw_len l
  have hs : ∀ (i : Nat) (x : Ins), sig k B.length (x, if tb x.k = true then (i : Int) else -1) = (fI k B.length x, if tb (fI k B.length x).k = true then ((dnI k B.length i : Nat) : Int) else -1) := fun i x => by
    show (fI k B.length x, _) = _
    congr 1
    show (if (if tb x.k = true then (i : Int) else -1) = -1 then (-1 : Int) else sfI k B.length (if tb x.k = true then (i : Int) else -1)) = if tb x.k = true then ((dnI k B.length i : Nat) : Int) else -1
    cases tb x.k with
    | false => simp
    | true =>
      simp only [if_true]
      rw [if_neg (by omega), sf_dn]
  apply List.ext_getElem?
  intro q
  rw [lw_at]
  rcases put_cases (l := l) (B := B) (k := k) q with ⟨i, rfl⟩ | ⟨i, rfl, hi⟩
  · rw [put_at h]
    unfold dnI
    by_cases hk : i < k
    · rw [if_pos hk, List.append_assoc, List.getElem?_append_left (by rw [List.length_map, List.length_take, hl]; omega), List.getElem?_map, List.getElem?_take_of_lt hk, lw_at]
      cases hx : l[i]? with
      | none => rfl
      | some x =>
        have := hs i x
        unfold dnI at this
        rw [if_pos hk] at this
        simp only [Option.map_some, this]
    · rw [if_neg hk, List.getElem?_append_right (by simp only [List.length_append, List.length_map, List.length_take, hl]; omega), List.getElem?_map, List.getElem?_drop]
      have e : k + (i + B.length - (List.map (sig k B.length) (List.take k (lw l)) ++ List.map (fun x => (x, (-1 : Int))) B).length) = i := by
        simp only [List.length_append, List.length_map, List.length_take, hl]
        omega
      rw [e, lw_at]
      cases hx : l[i]? with
      | none => rfl
      | some x =>
        have := hs i x
        unfold dnI at this
        rw [if_neg hk] at this
        simp only [Option.map_some, this]
  · rw [put_mid h i hi, List.getElem?_append_left (by simp only [List.length_append, List.length_map, List.length_take, hl]; omega), List.getElem?_append_right (by simp only [List.length_map, List.length_take, hl]; omega), List.getElem?_map]
    have e : k + i - (List.map (sig k B.length) (List.take k (lw l))).length = i := by
      simp only [List.length_map, List.length_take, hl]
      omega
    rw [e]
    have hx : B[i]? = some B[i] := List.getElem?_eq_getElem hi
    rw [hx]
    simp only [Option.map_some, hB _ (List.getElem_mem hi)]
    rfl
theorem opt_put {l C : List Ins} {k : Nat} (hd : Wd l) (hf : WF l) (hn : l.length ≤ 65536) (h : k ≤ l.length) (hC : ∀ x ∈ C, can x (inI x) = true) : opt (putL l (C ++ (C.map inI).reverse) k) = opt l := by
  have hcw := (red_all hd hf hn).1
  generalize hB : C ++ (C.map inI).reverse = B
  have hBt : ∀ z ∈ B, tb z.k = false := fun z hz => by
    rw [← hB] at hz
    rcases List.mem_append.1 hz with hz | hz
    · exact (can_iff.1 (hC z hz)).1
    · obtain ⟨x, hx, rfl⟩ := List.mem_map.1 (List.mem_reverse.1 hz)
      rw [inI_tb]
      exact (can_iff.1 (hC x hx)).1
  have e1 : B.map (fun x => (x, (-1 : Int))) = C.map (fun x => (x, (-1 : Int))) ++ ((C.map (fun x => (x, (-1 : Int)))).map (fun p => (inI p.1, p.2))).reverse := by
    rw [← hB, List.map_append, List.map_reverse, List.map_map, List.map_map]
    rfl
  have e2 : red lc (lw (putL l B k)) = (red lc (lw l)).map (sig k B.length) := by
    rw [lw_put h hBt, e1, red_vanish lc_back (fun p : Ins × Int => (inI p.1, p.2)) _ (fun a ha => by
      obtain ⟨x, hx, rfl⟩ := List.mem_map.1 ha
      exact lc_iff.2 ⟨hC x hx, rfl, rfl⟩), ← List.map_append, List.take_append_drop]
    exact red_map _ (sig_lc k B.length) _
  unfold opt
  rw [e2]
  unfold outp
  rw [List.map_map]
  refine List.map_congr_left fun p hp => ?_
  show rtI (fI k B.length p.1) (pos ((red lc (lw l)).map (sig k B.length)) (tgt (fI k B.length p.1))) = rtI p.1 (pos (red lc (lw l)) (tgt p.1))
  cases ht : tb p.1.k with
  | false =>
    have e : fI k B.length p.1 = p.1 := rtI_no _ _ ht
    rw [e, rtI_no _ _ ht, rtI_no _ _ ht]
  | true =>
    have h0 := (hcw.tin p hp ht).1
    have e : tgt (fI k B.length p.1) = sfI k B.length (tgt p.1) := rtI_tgt _ _ ht
    have hpos : pos ((red lc (lw l)).map (sig k B.length)) (sfI k B.length (tgt p.1)) = pos (red lc (lw l)) (tgt p.1) := by
      unfold pos
      rw [List.findIdx_map]
      congr 1
      funext q
      show ((if q.2 = -1 then (-1 : Int) else sfI k B.length q.2) == sfI k B.length (tgt p.1)) = (q.2 == tgt p.1)
      rw [Bool.eq_iff_iff, beq_iff_eq, beq_iff_eq]
      split
      · rename_i h1
        rw [h1]
        unfold sfI
        split <;> omega
      · exact sf_inj
    rw [e, hpos]
    unfold fI
    rw [rtI_two]
end Go.Proofs.YtkfmhmkeikhdbaaDoor
