/- Plain theory of images and of words in which neighbours cancel. -/
import Derived.Test.YtkfmhmkeikhdbaaDoorCheck
import Derived.Test.YtkfmhmkeikhdbaaDoorInv
namespace Go.Proofs.YtkfmhmkeikhdbaaDoor
open Go.ChangeShapes Go.WideShapes Go.ChangeAt Go.RowKit
set_option linter.unusedSimpArgs false
set_option linter.unusedVariables false
/-- the reference's Same -/
def sameB (m s m' s' : Int) (l l' : List Ins) : Bool := decide (m = m') && (decide (s = s') && decide (l = l'))
theorem take_eq_succ {l l' : List Ins} {k : Nat} {x y : Ins} (hx : l[k]? = some x) (hy : l'[k]? = some y) (h : l.take k = l'.take k) (e : x = y) : l.take (k + 1) = l'.take (k + 1) := by
  rw [List.take_add_one, List.take_add_one, h, hx, hy, e]
/-- the index of the first instruction with an opcode -/
def fst34 (l : List Ins) : Option Nat := (List.range l.length).find? (fun i => (l[i]?).map (·.k) == some 34)
theorem fst34_none {l : List Ins} (h : ∀ j, j < l.length → (l[j]?).map (·.k) ≠ some 34) : fst34 l = none := by
  unfold fst34
  rw [List.find?_eq_none]
  intro j hj
  have := h j (by simpa using hj)
  simp [this]
theorem fst34_some {l : List Ins} {i : Nat} (hi : i < l.length) (h : ∀ j, j < i → (l[j]?).map (·.k) ≠ some 34) (hb : (l[i]?).map (·.k) = some 34) : fst34 l = some i := by
  unfold fst34
  rw [List.find?_range_eq_some]
  exact ⟨by simp [hb], by simpa using hi, fun j hj => by simp [h j hj]⟩
def fstI (l : List Ins) : Int := match fst34 l with | some i => (i : Int) | none => 0
def fstB (l : List Ins) : Bool := (fst34 l).isSome
/-- the start s has a partner that does not end ahead of i -/
def opn (l : List Ins) (i s : Nat) : Bool := isSt l s && !decide ((part l s).getD 0 < (i : Int))
/-- the greatest s below k with p s, or -1 -/
def gst (p : Nat → Bool) : Nat → Int
  | 0 => -1
  | k + 1 => if p k = true then (k : Int) else gst p k
theorem gst_none {p : Nat → Bool} {k : Nat} (h : ∀ s, s < k → p s = false) : gst p k = -1 := by
  induction k with
  | zero => rfl
  | succ k ih =>
    show (if p k = true then (k : Int) else gst p k) = -1
    rw [if_neg (by rw [h k (by omega)]; decide)]
    exact ih fun s hs => h s (by omega)
theorem gst_some {p : Nat → Bool} {k t : Nat} (ht : t < k) (hp : p t = true) (h : ∀ s, t < s → s < k → p s = false) : gst p k = t := by
  induction k with
  | zero => omega
  | succ k ih =>
    show (if p k = true then (k : Int) else gst p k) = t
    by_cases hk : t = k
    · subst hk; rw [if_pos hp]
    · rw [if_neg (by rw [h k (by omega) (by omega)]; decide)]
      exact ih (by omega) fun s h1 h2 => h s h1 (by omega)
theorem gst_congr {p q : Nat → Bool} {k : Nat} (h : ∀ s, s < k → p s = q s) : gst p k = gst q k := by
  induction k with
  | zero => rfl
  | succ k ih =>
    show (if p k = true then (k : Int) else gst p k) = (if q k = true then (k : Int) else gst q k)
    rw [h k (by omega), ih fun s hs => h s (by omega)]
theorem gst_range (p : Nat → Bool) (k : Nat) : -1 ≤ gst p k ∧ gst p k < k := by
  induction k with
  | zero => exact ⟨Int.le_refl _, by show (-1 : Int) < ((0 : Nat) : Int); omega⟩
  | succ k ih =>
    show -1 ≤ (if p k = true then (k : Int) else gst p k) ∧ (if p k = true then (k : Int) else gst p k) < _
    split <;> omega
/-- either nothing holds, or gst is the greatest -/
theorem gst_cases (p : Nat → Bool) (k : Nat) : (gst p k = -1 ∧ ∀ s, s < k → p s = false) ∨ ∃ t : Nat, gst p k = t ∧ t < k ∧ p t = true ∧ ∀ s, t < s → s < k → p s = false := by
  induction k with
  | zero => exact .inl ⟨rfl, fun s h => by omega⟩
  | succ k ih =>
    cases hp : p k
    · have e : gst p (k + 1) = gst p k := by show (if p k = true then (k : Int) else gst p k) = _; rw [hp]; rfl
      rw [e]
      rcases ih with ⟨h1, h2⟩ | ⟨t, h1, h2, h3, h4⟩
      · refine .inl ⟨h1, fun s hs => ?_⟩
        by_cases e : s = k
        · subst e; exact hp
        · exact h2 s (by omega)
      · refine .inr ⟨t, h1, by omega, h3, fun s h5 h6 => ?_⟩
        by_cases e : s = k
        · subst e; exact hp
        · exact h4 s h5 (by omega)
    · exact .inr ⟨k, by show (if p k = true then (k : Int) else gst p k) = _; rw [hp]; rfl, by omega, hp, fun s h1 h2 => by omega⟩
structure StI (l : List Ins) (i k : Nat) (st : List Nat) : Prop where
  srt : st.Pairwise (fun a b => b < a)
  mem : ∀ s ∈ st, s < k ∧ isSt l s = true
  all : ∀ s, s < k → opn l i s = true → s ∈ st
theorem mem_drop {p : Nat → Bool} {st : List Nat} {s : Nat} (h : s ∈ st) (hp : p s = false) : s ∈ st.dropWhile p := by
  induction st with
  | nil => cases h
  | cons a st ih =>
    rw [List.dropWhile_cons]
    cases ha : p a
    · exact h
    · rw [if_pos rfl]
      rcases List.mem_cons.1 h with e | e
      · subst e; rw [hp] at ha; cases ha
      · exact ih e
theorem StI.popd {l : List Ins} {i k : Nat} {st : List Nat} (h : StI l i k st) : StI l i k (pop l i st) := by
  have hs : pop l i st <:+ st := List.dropWhile_suffix _
  refine ⟨h.srt.sublist hs.sublist, fun s hm => h.mem s (hs.subset hm), fun s hk ho => mem_drop (h.all s hk ho) ?_⟩
  unfold opn at ho
  simp only [Bool.and_eq_true, Bool.not_eq_true'] at ho
  exact ho.2
theorem head_drop {p : Nat → Bool} {st : List Nat} {t : Nat} {r : List Nat} (h : st.dropWhile p = t :: r) : p t = false := by
  induction st with
  | nil => cases h
  | cons a st ih =>
    rw [List.dropWhile_cons] at h
    cases ha : p a
    · rw [ha, if_neg (by decide)] at h; cases h; exact ha
    · rw [ha, if_pos rfl] at h; exact ih h
theorem StI.topd {l : List Ins} {i k : Nat} {st : List Nat} (h : StI l i k st) : top (pop l i st) = gst (opn l i) k := by
  have hp := h.popd
  cases hq : pop l i st with
  | nil =>
    rw [hq] at hp
    symm
    refine gst_none fun s hs => ?_
    cases ho : opn l i s
    · rfl
    · exact absurd (hp.all s hs ho) (by simp)
  | cons t r =>
    have hd := head_drop hq
    rw [hq] at hp
    have ht := hp.mem t (by simp)
    symm
    refine gst_some ht.1 (by unfold opn; rw [ht.2, hd]; rfl) fun s h1 h2 => ?_
    cases ho : opn l i s
    · rfl
    · rcases List.mem_cons.1 (hp.all s h2 ho) with e | e
      · omega
      · have := List.rel_of_pairwise_cons hp.srt e; omega
theorem StI.pushd {l : List Ins} {i : Nat} {st : List Nat} (h : StI l i i st) : StI l i (i + 1) (push l i st) := by
  unfold push
  cases hs : isSt l i
  · rw [if_neg (by decide)]
    refine ⟨h.srt, fun s hm => ⟨by have := (h.mem s hm).1; omega, (h.mem s hm).2⟩, fun s hk ho => ?_⟩
    by_cases e : s = i
    · subst e; unfold opn at ho; rw [hs] at ho; cases ho
    · exact h.all s (by omega) ho
  · rw [if_pos rfl]
    refine ⟨List.pairwise_cons.2 ⟨fun s hm => (h.mem s hm).1, h.srt⟩, fun s hm => ?_, fun s hk ho => ?_⟩
    · rcases List.mem_cons.1 hm with e | e
      · subst e; exact ⟨by omega, hs⟩
      · exact ⟨by have := (h.mem s e).1; omega, (h.mem s e).2⟩
    · by_cases e : s = i
      · subst e; simp
      · exact List.mem_cons_of_mem _ (h.all s (by omega) ho)
theorem opn_mono {l : List Ins} {i s : Nat} (h : opn l (i + 1) s = true) : opn l i s = true := by
  unfold opn at *
  simp only [Bool.and_eq_true, Bool.not_eq_true', decide_eq_false_iff_not] at *
  exact ⟨h.1, by omega⟩
theorem stk_inv (l : List Ins) (i : Nat) : StI l i i (stk l i) := by
  induction i with
  | zero => exact ⟨List.Pairwise.nil, fun s h => absurd h (by simp [stk]), fun s h => by omega⟩
  | succ i ih =>
    have h := ih.popd.pushd.popd
    exact ⟨h.srt, h.mem, fun s hk ho => h.all s hk (opn_mono ho)⟩
theorem regO_1 (l : List Ins) (i : Nat) : (regO l i).1 = gst (opn l i) (i + 1) := (stk_inv l i).popd.pushd.topd
theorem regO_2 (l : List Ins) (i : Nat) : (regO l i).2 = gst (opn l i) i := (stk_inv l i).topd
/-- what the reference's region asks of s -/
def rop (l : List Ins) (i : Nat) (skip : Int) (s : Nat) : Bool := decide ((s : Int) ≠ skip) && ((l[s]?).map (·.k) == some 32 && decide ((i : Int) ≤ rp l s))
def rgn (l : List Ins) (i : Nat) (skip : Int) : Int := gst (rop l i skip) (i + 1)
theorem rop_opn (l : List Ins) (i s : Nat) : ((l[s]?).map (·.k) == some 32 && decide ((i : Int) ≤ rp l s)) = opn l i s := by
  unfold opn isSt rp
  cases hp : part l s with
  | none =>
    have : decide ((i : Int) ≤ (none : Option Int).getD (-1)) = false := by simp; omega
    rw [this]; simp
  | some t =>
    simp only [Option.getD_some, Option.isSome_some, Bool.true_and]
    congr 1
    rw [Bool.eq_iff_iff]; simp
theorem rgn_own (l : List Ins) (i : Nat) : rgn l i (-1) = gst (opn l i) (i + 1) := gst_congr fun s _ => by
  unfold rop
  rw [rop_opn]
  have : decide ((s : Int) ≠ -1) = true := decide_eq_true (by omega)
  rw [this, Bool.true_and]
theorem rgn_outer (l : List Ins) (i : Nat) : rgn l i (i : Int) = gst (opn l i) i := by
  have e : rop l i (i : Int) i = false := by unfold rop; simp
  show (if rop l i (i : Int) i = true then (i : Int) else gst (rop l i (i : Int)) i) = _
  rw [e, if_neg (by decide)]
  exact gst_congr fun s hs => by
    unfold rop
    rw [rop_opn]
    have : decide ((s : Int) ≠ (i : Int)) = true := decide_eq_true (by omega)
    rw [this, Bool.true_and]
theorem own_regs {l : List Ins} {i : Nat} (h : i < l.length) : own (regs l) (i : Int) = rgn l i (-1) := by
  unfold own regs
  rw [Int.toNat_natCast, List.getD_eq_getElem?_getD, List.getElem?_map, List.getElem?_range h]
  show (regO l i).1 = _
  rw [regO_1, rgn_own]
theorem outer_regs {l : List Ins} {i : Nat} (h : i < l.length) : outer (regs l) (i : Int) = rgn l i i := by
  unfold outer regs
  rw [Int.toNat_natCast, List.getD_eq_getElem?_getD, List.getElem?_map, List.getElem?_range h]
  show (regO l i).2 = _
  rw [regO_2, rgn_outer]
/-- the fault of an instruction in terms of the regions of the reference -/
theorem flt_eq {l : List Ins} {i : Nat} {x : Ins} (hx : l[i]? = some x) : flt l (regs l) i =
    if vld x = false then 3
    else if rol x.k = 0 then (if x.k = 30 ∨ x.k = 31 then cfl l x.a else 0)
    else match part l i with
      | none => 23
      | some t => if rol x.k = 3 then (if 0 ≤ rgn l i i then 20 else 0)
        else if rol x.k = 1 ∨ rol x.k = 2 then (if rgn l i (-1) ≠ rgn l t.toNat (-1) then 20 else 0) else 0 := by
  unfold flt
  rw [hx]
  simp only
  split
  · rfl
  · split
    · rfl
    · cases hp : part l i with
      | none => rfl
      | some t =>
        obtain ⟨j, rfl, hj⟩ := (part_iff l i t).1 hp
        simp only
        rw [own_regs (lt_len hx), own_regs hj.lt.2, outer_regs (lt_len hx), Int.toNat_natCast]
/-- the target of an instruction, or the end of the procedure that it calls -/
def invT (l : List Ins) (x : Ins) : Int := if x.k = 30 ∨ x.k = 31 then (part l (tv x.k x.a x.b)).getD 0 else tv x.k x.a x.b
def invI (l : List Ins) (x : Ins) : Ins := ⟨invO x.k, rta x.k x.a ((l.length : Int) - 1 - invT l x), rtb x.k x.b ((l.length : Int) - 1 - invT l x), x.c, x.d⟩
def invL (l : List Ins) : List Ins := (l.map (invI l)).reverse
theorem invL_len (l : List Ins) : (invL l).length = l.length := by simp [invL]
theorem invL_at {l : List Ins} {i : Nat} {x : Ins} (h : l[i]? = some x) : (invL l)[l.length - 1 - i]? = some (invI l x) := by
  have := lt_len h
  unfold invL
  rw [List.getElem?_reverse (by simp; omega), List.getElem?_map, List.length_map, show l.length - 1 - (l.length - 1 - i) = i by omega, h]
  rfl
/-- a valid instruction with a target -/
theorem vld_tv {x : Ins} (h : vld x = true) (ht : tb x.k = true) : 0 ≤ tv x.k x.a x.b ∧ tv x.k x.a x.b ≤ 65535 := by
  by_cases hk : x.k = 30 ∨ x.k = 31
  · obtain ⟨k, a, b, c, d⟩ := x
    have key : chk (opS k) a 0 = true := by
      unfold vld validB at h
      simp only [Bool.and_eq_true] at h
      exact h.2.1
    rcases hk with rfl | rfl
    · have h3 : chk (opS 30) a 0 = decide (0 ≤ a ∧ a ≤ 65535) := rfl
      rw [h3] at key
      exact of_decide_eq_true key
    · have h3 : chk (opS 31) a 0 = decide (0 ≤ a ∧ a ≤ 65535) := rfl
      rw [h3] at key
      exact of_decide_eq_true key
  · refine vld_tgt x h ?_
    intro hr
    unfold rol at hr
    unfold tb tg at ht
    have := of_decide_eq_true ht
    split at hr
    · omega
    · split at hr
      · omega
      · split at hr
        · omega
        · split at hr
          · omega
          · split at this
            · omega
            · split at this
              · omega
              · omega
theorem rta_no {k a x : Int} (h : tb k = false) : rta k a x = a := by
  unfold rta
  rw [if_neg]
  intro e
  unfold tb at h
  have := of_decide_eq_false h
  exact this (.inl e)
theorem rtb_no {k a x : Int} (h : tb k = false) : rtb k a x = a := by
  unfold rtb
  rw [if_neg]
  intro e
  unfold tb at h
  have := of_decide_eq_false h
  exact this (.inr e)
def Ins.cell (x : Ins) (q : Nat) : Value := if q = 0 then .int .u8 x.k else if q = 1 then .int .i64 x.a else if q = 2 then .int .i64 x.b else if q = 3 then .int .i64 x.c else .int .i64 x.d
def zins : Ins := ⟨0, 0, 0, 0, 0⟩
/-- the cells of a row of n instructions whose last k are laid -/
def insF (L : List Ins) (n k p : Nat) : Value := if n ≤ p / 5 + k then (L.getD (p / 5) zins).cell (p % 5) else zins.cell (p % 5)
theorem insF_set (L : List Ins) (n k r : Nat) (y : Ins) (hr : n = r + k + 1) (hy : L[r]? = some y) (p : Nat) :
    (if p = r * 5 + 4 then Value.int .i64 y.d else if p = r * 5 + 3 then .int .i64 y.c else if p = r * 5 + 2 then .int .i64 y.b else if p = r * 5 + 1 then .int .i64 y.a else if p = r * 5 then .int .u8 y.k else insF L n k p) = insF L n (k + 1) p := by
  have hg : L.getD r zins = y := by rw [List.getD_eq_getElem?_getD, hy]; rfl
  unfold insF
  by_cases hp : p / 5 = r
  · have h4 : p % 5 = 0 ∨ p % 5 = 1 ∨ p % 5 = 2 ∨ p % 5 = 3 ∨ p % 5 = 4 := by omega
    rw [if_pos (show n ≤ p / 5 + (k + 1) by omega), hp, hg]
    unfold Ins.cell
    rcases h4 with h | h | h | h | h
    · rw [if_neg (by omega), if_neg (by omega), if_neg (by omega), if_neg (by omega), if_pos (by omega), if_pos h]
    · rw [if_neg (by omega), if_neg (by omega), if_neg (by omega), if_pos (by omega), if_neg (by omega), if_pos h]
    · rw [if_neg (by omega), if_neg (by omega), if_pos (by omega), if_neg (by omega), if_neg (by omega), if_pos h]
    · rw [if_neg (by omega), if_pos (by omega), if_neg (by omega), if_neg (by omega), if_neg (by omega), if_pos h]
    · rw [if_pos (by omega), if_neg (by omega), if_neg (by omega), if_neg (by omega), if_neg (by omega)]
  · rw [if_neg (by omega), if_neg (by omega), if_neg (by omega), if_neg (by omega), if_neg (by omega)]
    by_cases h1 : n ≤ p / 5 + k
    · rw [if_pos h1, if_pos (by omega)]
    · rw [if_neg h1, if_neg (by omega)]
theorem ckE_ok {l : List Ins} {m s : Int} (h : ckE l m s = 0) : rngB m s = false ∧ ∀ i, i < l.length → flt l (regs l) i = 0 := by
  unfold ckE at h
  cases hr : rngB m s
  · rw [hr] at h
    refine ⟨rfl, ?_⟩
    rw [if_neg (by decide)] at h
    cases hf : fb l with
    | none =>
      intro i hi
      unfold fb at hf
      rw [List.find?_eq_none] at hf
      have := hf i (by simpa using hi)
      simpa using this
    | some i =>
      rw [hf] at h
      unfold fb at hf
      have := List.find?_some hf
      simp at this
      exact absurd h this
  · rw [hr, if_pos rfl] at h; omega
theorem ckE_mk {l : List Ins} {m s : Int} (h : rngB m s = false) (h2 : ∀ i, i < l.length → flt l (regs l) i = 0) : ckE l m s = 0 := by
  unfold ckE
  rw [h, if_neg (by decide), fb_none h2]
theorem flt_vld {l : List Ins} {i : Nat} {x : Ins} (hx : l[i]? = some x) (h : flt l (regs l) i = 0) : vld x = true := by
  rw [flt_eq hx] at h
  cases hv : vld x
  · rw [hv, if_pos rfl] at h; omega
  · rfl
theorem part_nonneg {l : List Ins} {i t : Int} (h : part l i = some t) : 0 ≤ t ∧ t < l.length := by
  have h1 := part_in (l := l) (t := i) (by rw [h]; rfl)
  obtain ⟨j, rfl⟩ : ∃ j : Nat, i = j := ⟨i.toNat, by omega⟩
  obtain ⟨q, rfl, hq⟩ := (part_iff l j t).1 h
  have := hq.lt.2
  omega
/-- the first halt below j, or -1 -/
def fu (l : List Ins) : Nat → Int
  | 0 => -1
  | j + 1 => if fu l j < 0 ∧ (l[j]?).map (·.k) = some 34 then (j : Int) else fu l j
theorem fu_range (l : List Ins) (j : Nat) : -1 ≤ fu l j ∧ fu l j < j := by
  induction j with
  | zero => exact ⟨Int.le_refl _, by show (-1 : Int) < ((0 : Nat) : Int); omega⟩
  | succ j ih =>
    show -1 ≤ (if fu l j < 0 ∧ (l[j]?).map (·.k) = some 34 then (j : Int) else fu l j) ∧ (if fu l j < 0 ∧ (l[j]?).map (·.k) = some 34 then (j : Int) else fu l j) < _
    split <;> omega
theorem fu_cases (l : List Ins) (j : Nat) : (fu l j = -1 ∧ ∀ i, i < j → (l[i]?).map (·.k) ≠ some 34) ∨ ∃ i : Nat, fu l j = i ∧ i < j ∧ (l[i]?).map (·.k) = some 34 ∧ ∀ q, q < i → (l[q]?).map (·.k) ≠ some 34 := by
  induction j with
  | zero => exact .inl ⟨rfl, fun i h => by omega⟩
  | succ j ih =>
    rcases ih with ⟨h1, h2⟩ | ⟨i, h1, h2, h3, h4⟩
    · by_cases hk : (l[j]?).map (·.k) = some 34
      · exact .inr ⟨j, by show (if fu l j < 0 ∧ _ then _ else _) = _; rw [if_pos ⟨by omega, hk⟩], by omega, hk, h2⟩
      · refine .inl ⟨by show (if fu l j < 0 ∧ _ then _ else _) = _; rw [if_neg (fun e => hk e.2), h1], fun i hi => ?_⟩
        by_cases e : i = j
        · subst e; exact hk
        · exact h2 i (by omega)
    · exact .inr ⟨i, by show (if fu l j < 0 ∧ _ then _ else _) = _; rw [if_neg (fun e => by have := e.1; omega), h1], by omega, h3, h4⟩
theorem fu_fst (l : List Ins) : fstI l = max (fu l l.length) 0 ∧ fstB l = decide (0 ≤ fu l l.length) := by
  unfold fstI fstB
  rcases fu_cases l l.length with ⟨h1, h2⟩ | ⟨i, h1, h2, h3, h4⟩
  · rw [h1, fst34_none h2]; exact ⟨rfl, rfl⟩
  · rw [h1, fst34_some h2 h4 h3]
    refine ⟨?_, ?_⟩
    · show (i : Int) = max (i : Int) 0
      omega
    · simp
theorem fu_yes {l : List Ins} {j : Nat} {x : Ins} (hx : l[j]? = some x) (hk : x.k = 34) (h : fu l j < 0) : fu l (j + 1) = j := by
  show (if fu l j < 0 ∧ (l[j]?).map (·.k) = some 34 then (j : Int) else fu l j) = j
  rw [if_pos ⟨h, by rw [hx]; simp [hk]⟩]
theorem fu_no {l : List Ins} {j : Nat} {x : Ins} (hx : l[j]? = some x) (hk : x.k ≠ 34 ∨ ¬ fu l j < 0) : fu l (j + 1) = fu l j := by
  show (if fu l j < 0 ∧ (l[j]?).map (·.k) = some 34 then (j : Int) else fu l j) = _
  rw [if_neg]
  rintro ⟨h1, h2⟩
  rw [hx] at h2
  rcases hk with hk | hk
  · exact hk (by simpa using h2)
  · exact hk h1
/-- a procedure from s to e -/
def St (l : List Ins) (s e : Nat) : Prop := PR l s e ∧ (l[s]?).map (·.k) = some 32
theorem St.lt {l : List Ins} {s e : Nat} (h : St l s e) : s < e ∧ e < l.length := by
  obtain ⟨hp, hk⟩ := h
  have h2 := hp.lt
  obtain ⟨x, y, h1, _, _, _, _, _, _, _, h9, _⟩ := hp
  rw [h1] at hk
  exact ⟨h9 ((rol3 _).2 (by simpa using hk)), h2.2⟩
theorem St.fun {l : List Ins} {s e e' : Nat} (h : St l s e) (h' : St l s e') : e = e' := h.1.fun h'.1
/-- an image without faults -/
structure Wd (l : List Ins) : Prop where
  vl : ∀ (i : Nat) (x : Ins), l[i]? = some x → vld x = true
  call : ∀ (i : Nat) (x : Ins), l[i]? = some x → (x.k = 30 ∨ x.k = 31) → ∃ p e : Nat, x.a = p ∧ St l p e
  pair : ∀ (i : Nat) (x : Ins), l[i]? = some x → rol x.k ≠ 0 → ∃ j, PR l i j
  disj : ∀ s e s' e' : Nat, St l s e → St l s' e' → s < s' → e < s'
  jumps : ∀ (i j : Nat) (x : Ins), l[i]? = some x → (rol x.k = 1 ∨ rol x.k = 2) → PR l i j → ∀ s e, St l s e → (s ≤ i ∧ i ≤ e ↔ s ≤ j ∧ j ≤ e)
theorem opn_iff {l : List Ins} {i s : Nat} : opn l i s = true ↔ ∃ e, St l s e ∧ i ≤ e := by
  unfold opn isSt
  constructor
  · intro h
    simp only [Bool.and_eq_true, Bool.not_eq_true', decide_eq_false_iff_not] at h
    obtain ⟨⟨h1, h2⟩, h3⟩ := h
    cases hp : part l s with
    | none => rw [hp] at h1; cases h1
    | some t =>
      obtain ⟨e, rfl, he⟩ := (part_iff l s t).1 hp
      rw [hp] at h3
      simp only [Option.getD_some] at h3
      exact ⟨e, ⟨he, by simpa using h2⟩, by omega⟩
  · rintro ⟨e, ⟨h1, h2⟩, h3⟩
    have hp := (part_iff l s (e : Int)).2 ⟨e, rfl, h1⟩
    rw [hp, h2]
    simp
    omega
theorem rgn_cases (l : List Ins) (i : Nat) : (rgn l i (-1) = -1 ∧ ∀ s e, St l s e → s ≤ i → i ≤ e → False) ∨ ∃ s e : Nat, rgn l i (-1) = s ∧ St l s e ∧ s ≤ i ∧ i ≤ e := by
  rw [rgn_own]
  rcases gst_cases (opn l i) (i + 1) with ⟨h1, h2⟩ | ⟨t, h1, h2, h3, h4⟩
  · refine .inl ⟨h1, fun s e hs h5 h6 => ?_⟩
    have := h2 s (by omega)
    rw [opn_iff.2 ⟨e, hs, h6⟩] at this
    cases this
  · obtain ⟨e, he, h5⟩ := opn_iff.1 h3
    exact .inr ⟨t, e, h1, he, by omega, h5⟩
theorem rgn_out {l : List Ins} {i : Nat} : 0 ≤ rgn l i i ↔ ∃ s e, St l s e ∧ s < i ∧ i ≤ e := by
  rw [rgn_outer]
  rcases gst_cases (opn l i) i with ⟨h1, h2⟩ | ⟨t, h1, h2, h3, h4⟩
  · rw [h1]
    constructor
    · intro h; omega
    · rintro ⟨s, e, hs, h5, h6⟩
      have := h2 s h5
      rw [opn_iff.2 ⟨e, hs, h6⟩] at this
      cases this
  · rw [h1]
    obtain ⟨e, he, h5⟩ := opn_iff.1 h3
    exact ⟨fun _ => ⟨t, e, he, h2, h5⟩, fun _ => by omega⟩
theorem cfl_iff {l : List Ins} {t : Int} : cfl l t = 0 ↔ ∃ p e : Nat, t = p ∧ St l p e := by
  unfold cfl
  constructor
  · intro h
    split at h
    · rename_i hc
      obtain ⟨h1, h2⟩ := hc
      have h3 := part_in h1
      obtain ⟨p, rfl⟩ : ∃ p : Nat, t = p := ⟨t.toNat, by omega⟩
      cases hp : part l p with
      | none => rw [hp] at h1; cases h1
      | some u =>
        obtain ⟨e, rfl, he⟩ := (part_iff l p u).1 hp
        exact ⟨p, e, rfl, he, by rw [Int.toNat_natCast] at h2; exact h2⟩
    · omega
  · rintro ⟨p, e, rfl, h1, h2⟩
    rw [if_pos ⟨by rw [(part_iff l p (e : Int)).2 ⟨e, rfl, h1⟩]; rfl, by rw [Int.toNat_natCast]; exact h2⟩]
/-- two instructions in the same procedure -/
theorem same_rgn {l : List Ins} (hd : ∀ s e s' e' : Nat, St l s e → St l s' e' → s < s' → e < s') (i j : Nat) : rgn l i (-1) = rgn l j (-1) ↔ ∀ s e, St l s e → (s ≤ i ∧ i ≤ e ↔ s ≤ j ∧ j ≤ e) := by
  have uniq : ∀ {s e s' e' q : Nat}, St l s e → St l s' e' → s ≤ q → q ≤ e → s' ≤ q → q ≤ e' → s = s' := fun {s e s' e' q} h h' h1 h2 h3 h4 => by
    rcases Nat.lt_trichotomy s s' with h5 | h5 | h5
    · have := hd _ _ _ _ h h' h5; omega
    · exact h5
    · have := hd _ _ _ _ h' h h5; omega
  constructor
  · intro h s e hs
    rcases rgn_cases l i with ⟨a1, a2⟩ | ⟨s1, e1, a1, a2, a3, a4⟩
    · rcases rgn_cases l j with ⟨b1, b2⟩ | ⟨s2, e2, b1, b2, b3, b4⟩
      · exact ⟨fun q => absurd (a2 s e hs q.1 q.2) (fun f => f), fun q => absurd (b2 s e hs q.1 q.2) (fun f => f)⟩
      · omega
    · rcases rgn_cases l j with ⟨b1, b2⟩ | ⟨s2, e2, b1, b2, b3, b4⟩
      · omega
      · obtain rfl : s1 = s2 := by omega
        obtain rfl := a2.fun b2
        constructor
        · rintro ⟨q1, q2⟩
          obtain rfl := uniq hs a2 q1 q2 a3 a4
          obtain rfl := hs.fun a2
          exact ⟨b3, b4⟩
        · rintro ⟨q1, q2⟩
          obtain rfl := uniq hs a2 q1 q2 b3 b4
          obtain rfl := hs.fun a2
          exact ⟨a3, a4⟩
  · intro h
    rcases rgn_cases l i with ⟨a1, a2⟩ | ⟨s1, e1, a1, a2, a3, a4⟩
    · rcases rgn_cases l j with ⟨b1, b2⟩ | ⟨s2, e2, b1, b2, b3, b4⟩
      · rw [a1, b1]
      · have := (h s2 e2 b2).2 ⟨b3, b4⟩
        exact absurd (a2 s2 e2 b2 this.1 this.2) (fun f => f)
    · rcases rgn_cases l j with ⟨b1, b2⟩ | ⟨s2, e2, b1, b2, b3, b4⟩
      · have := (h s1 e1 a2).1 ⟨a3, a4⟩
        exact absurd (b2 s1 e1 a2 this.1 this.2) (fun f => f)
      · have := (h s1 e1 a2).1 ⟨a3, a4⟩
        obtain rfl := uniq a2 b2 this.1 this.2 b3 b4
        rw [a1, b1]
theorem pr_role {l : List Ins} {i j : Nat} {x : Ins} (h : PR l i j) (hx : l[i]? = some x) : rol x.k ≠ 0 := by
  obtain ⟨x', y, h1, _, _, _, _, _, h7, _⟩ := h
  rw [hx] at h1; cases h1
  exact h7
theorem wd_iff (l : List Ins) : (∀ i, i < l.length → flt l (regs l) i = 0) ↔ Wd l := by
  constructor
  · intro hv
    have hf : ∀ (i : Nat) (x : Ins), l[i]? = some x → flt l (regs l) i = 0 := fun i x hx => hv i (lt_len hx)
    have hvl : ∀ (i : Nat) (x : Ins), l[i]? = some x → vld x = true := fun i x hx => flt_vld hx (hf i x hx)
    have hpair : ∀ (i : Nat) (x : Ins), l[i]? = some x → rol x.k ≠ 0 → ∃ j, PR l i j := fun i x hx hr => by
      have h := hf i x hx
      rw [flt_eq hx, if_neg (by rw [hvl i x hx]; decide), if_neg hr] at h
      cases hp : part l i with
      | none => rw [hp] at h; simp only at h; omega
      | some t => obtain ⟨j, _, hj⟩ := (part_iff l i t).1 hp; exact ⟨j, hj⟩
    have hdisj : ∀ s e s' e' : Nat, St l s e → St l s' e' → s < s' → e < s' := fun s e s' e' h h' hlt => by
      obtain ⟨x, hx⟩ : ∃ x, l[s']? = some x := ⟨_, List.getElem?_eq_getElem h'.1.lt.1⟩
      have hk : x.k = 32 := by have := h'.2; rw [hx] at this; simpa using this
      have hr : rol x.k = 3 := (rol3 _).2 hk
      have hq := hf s' x hx
      rw [flt_eq hx, if_neg (by rw [hvl s' x hx]; decide), if_neg (by rw [hr]; decide), (part_iff l s' (e' : Int)).2 ⟨e', rfl, h'.1⟩] at hq
      simp only at hq
      rw [if_pos hr] at hq
      split at hq
      · omega
      · rename_i hn
        rcases Nat.lt_or_ge e s' with h5 | h5
        · exact h5
        · exact absurd (rgn_out.2 ⟨s, e, h, hlt, h5⟩) hn
    refine ⟨hvl, fun i x hx hk => ?_, hpair, hdisj, fun i j x hx hr hp => ?_⟩
    · have h := hf i x hx
      have h0 : rol x.k = 0 := rol_other _ (by omega)
      rw [flt_eq hx, if_neg (by rw [hvl i x hx]; decide), if_pos h0, if_pos hk] at h
      exact cfl_iff.1 h
    · have h := hf i x hx
      rw [flt_eq hx, if_neg (by rw [hvl i x hx]; decide), if_neg (by omega), (part_iff l i (j : Int)).2 ⟨j, rfl, hp⟩] at h
      simp only at h
      rw [if_neg (by omega), if_pos hr, Int.toNat_natCast] at h
      split at h
      · omega
      · rename_i hn
        exact (same_rgn hdisj i j).1 (by simpa using hn)
  · intro h i hi
    obtain ⟨x, hx⟩ : ∃ x, l[i]? = some x := ⟨_, List.getElem?_eq_getElem hi⟩
    rw [flt_eq hx, if_neg (by rw [h.vl i x hx]; decide)]
    by_cases h0 : rol x.k = 0
    · rw [if_pos h0]
      by_cases hk : x.k = 30 ∨ x.k = 31
      · rw [if_pos hk]; exact cfl_iff.2 (h.call i x hx hk)
      · rw [if_neg hk]
    · rw [if_neg h0]
      obtain ⟨j, hj⟩ := h.pair i x hx h0
      rw [(part_iff l i (j : Int)).2 ⟨j, rfl, hj⟩]
      simp only
      by_cases h3 : rol x.k = 3
      · rw [if_pos h3, if_neg]
        intro hc
        obtain ⟨s, e, hs, h5, h6⟩ := rgn_out.1 hc
        have := h.disj s e i j hs ⟨hj, by rw [hx]; simp [(rol3 _).1 h3]⟩ h5
        omega
      · rw [if_neg h3]
        by_cases h12 : rol x.k = 1 ∨ rol x.k = 2
        · rw [if_pos h12, if_neg, ]
          intro hc
          rw [Int.toNat_natCast] at hc
          exact hc ((same_rgn h.disj i j).2 (h.jumps i j x hx h12 hj))
        · rw [if_neg h12]
theorem wd_ck {l : List Ins} {m s : Int} : ckE l m s = 0 ↔ rngB m s = false ∧ Wd l :=
  ⟨fun h => ⟨(ckE_ok h).1, (wd_iff l).1 (ckE_ok h).2⟩, fun h => ckE_mk h.1 ((wd_iff l).2 h.2)⟩
theorem ckI_ok {l : List Ins} {m s : Int} (h : ckE l m s = 0) : ckI l m s = -1 := by
  obtain ⟨h1, h2⟩ := ckE_ok h
  unfold ckI
  rw [h1, if_neg (by decide), fb_none h2]
theorem rol_inv (k : Int) : rol (invO k) = opp (rol k) := by
  by_cases hk : k ≠ 22 ∧ k ≠ 23 ∧ k ≠ 24 ∧ k ≠ 25 ∧ k ≠ 26 ∧ k ≠ 27 ∧ k ≠ 32 ∧ k ≠ 33
  · have h0 : rol k = 0 := rol_other k hk
    have key : ∀ c : Int, invO c ≠ k → invO k ≠ c := fun c h e => h (by rw [← e]; exact inv_inv k)
    have h1 : rol (invO k) = 0 := rol_other _ ⟨key 22 (by show (25 : Int) ≠ k; omega), key 23 (by show (26 : Int) ≠ k; omega), key 24 (by show (27 : Int) ≠ k; omega), key 25 (by show (22 : Int) ≠ k; omega), key 26 (by show (23 : Int) ≠ k; omega), key 27 (by show (24 : Int) ≠ k; omega), key 32 (by show (33 : Int) ≠ k; omega), key 33 (by show (32 : Int) ≠ k; omega)⟩
    rw [h0, h1]; rfl
  · rcases (by omega : k = 22 ∨ k = 23 ∨ k = 24 ∨ k = 25 ∨ k = 26 ∨ k = 27 ∨ k = 32 ∨ k = 33) with rfl | rfl | rfl | rfl | rfl | rfl | rfl | rfl <;> rfl
theorem valid_a (k a b c d u : Int) (hk : tg k = 0) (h : validB k a b c d = true) (hu : 0 ≤ u ∧ u ≤ 65535) : validB k u b c d = true := by
  have hcl : clsOk 116 u = true := by show decide (0 ≤ u ∧ u ≤ 65535) = true; exact decide_eq_true hu
  have hk6 : k = 22 ∨ k = 25 ∨ k = 30 ∨ k = 31 ∨ k = 32 ∨ k = 33 := by
    unfold tg at hk
    split at hk
    · assumption
    · split at hk <;> omega
  unfold validB at h ⊢
  simp only [Bool.and_eq_true] at h ⊢
  rcases hk6 with rfl | rfl | rfl | rfl | rfl | rfl <;> exact ⟨h.1, hcl, h.2.2.1, h.2.2.2.1, h.2.2.2.2.1, rfl⟩
theorem valid_b (k a b c d u : Int) (hk : tg k = 1) (h : validB k a b c d = true) (hu : 0 ≤ u ∧ u ≤ 65535) : validB k a u c d = true := by
  have hcl : clsOk 116 u = true := by show decide (0 ≤ u ∧ u ≤ 65535) = true; exact decide_eq_true hu
  have hk6 : k = 23 ∨ k = 24 ∨ k = 26 ∨ k = 27 := by
    unfold tg at hk
    split at hk
    · omega
    · split at hk
      · assumption
      · omega
  unfold validB at h ⊢
  simp only [Bool.and_eq_true] at h ⊢
  rcases hk6 with rfl | rfl | rfl | rfl <;> exact ⟨h.1, h.2.1, hcl, h.2.2.2.1, h.2.2.2.2.1, rfl⟩
/-- a valid instruction with another target is valid -/
theorem valid_re (k a b c d u : Int) (h : validB k a b c d = true) (hu : tb k = true → 0 ≤ u ∧ u ≤ 65535) : validB k (rta k a u) (rtb k b u) c d = true := by
  rcases tg_cases k with ht | ht | ht
  · have e1 : rta k a u = u := by unfold rta; rw [if_pos ht]
    have e2 : rtb k b u = b := by unfold rtb; rw [if_neg (by omega)]
    rw [e1, e2]
    exact valid_a k a b c d u ht h (hu (by unfold tb; simp [ht]))
  · have e1 : rta k a u = a := by unfold rta; rw [if_neg (by omega)]
    have e2 : rtb k b u = u := by unfold rtb; rw [if_pos ht]
    rw [e1, e2]
    exact valid_b k a b c d u ht h (hu (by unfold tb; simp [ht]))
  · have e1 : rta k a u = a := by unfold rta; rw [if_neg (by omega)]
    have e2 : rtb k b u = b := by unfold rtb; rw [if_neg (by omega)]
    rw [e1, e2]
    exact h
theorem tv_re (k a b u : Int) (h : tb k = true) : tv k (rta k a u) (rtb k b u) = u := by
  unfold tb at h
  have := of_decide_eq_true h
  unfold tv rta rtb
  rcases this with ht | ht
  · rw [if_pos ht, if_pos ht]
  · rw [if_neg (by omega), if_pos ht, if_pos ht]
theorem re_re (k a u v : Int) : rta k (rta k a u) v = rta k a v := by unfold rta; split <;> rfl
theorem re_reb (k a u v : Int) : rtb k (rtb k a u) v = rtb k a v := by unfold rtb; split <;> rfl
theorem rta_inv (k a u : Int) : rta (invO k) a u = rta k a u := by unfold rta; rw [inv_tg]
theorem rtb_inv (k a u : Int) : rtb (invO k) a u = rtb k a u := by unfold rtb; rw [inv_tg]
theorem rta_self (k a b : Int) : rta k a (tv k a b) = a := by
  unfold rta tv
  split
  · rfl
  · rfl
theorem rtb_self (k a b : Int) : rtb k b (tv k a b) = b := by
  unfold rtb tv
  by_cases h1 : tg k = 1
  · rw [if_pos h1, if_neg (by omega), if_pos h1]
  · rw [if_neg h1]
theorem tb_rol {k : Int} (h : rol k ≠ 0) : tb k = true := by
  by_cases hk : k ≠ 22 ∧ k ≠ 23 ∧ k ≠ 24 ∧ k ≠ 25 ∧ k ≠ 26 ∧ k ≠ 27 ∧ k ≠ 32 ∧ k ≠ 33
  · exact absurd (rol_other k hk) h
  · rcases (by omega : k = 22 ∨ k = 23 ∨ k = 24 ∨ k = 25 ∨ k = 26 ∨ k = 27 ∨ k = 32 ∨ k = 33) with rfl | rfl | rfl | rfl | rfl | rfl | rfl | rfl <;> rfl
theorem rol_call {k : Int} (h : k = 30 ∨ k = 31) : rol k = 0 := rol_other k (by omega)
theorem invO_call {k : Int} (h : k = 30 ∨ k = 31) : invO k = k := by rcases h with rfl | rfl <;> rfl
theorem tb_cases {k : Int} (h : tb k = true) : rol k ≠ 0 ∨ k = 30 ∨ k = 31 := by
  unfold tb at h
  have := of_decide_eq_true h
  unfold tg at this
  by_cases hk : k = 30 ∨ k = 31
  · exact .inr hk
  · refine .inl ?_
    have hk8 : k = 22 ∨ k = 25 ∨ k = 32 ∨ k = 33 ∨ k = 23 ∨ k = 24 ∨ k = 26 ∨ k = 27 := by
      rcases this with h1 | h1
      · split at h1
        · omega
        · split at h1 <;> omega
      · split at h1
        · omega
        · split at h1 <;> omega
    rcases hk8 with rfl | rfl | rfl | rfl | rfl | rfl | rfl | rfl <;> decide
/-- the target of an instruction of an image without faults lies in the image -/
theorem Wd.target {l : List Ins} (h : Wd l) {i : Nat} {x : Ins} (hx : l[i]? = some x) (ht : tb x.k = true) : ∃ q : Nat, invT l x = q ∧ q < l.length := by
  unfold invT
  rcases tb_cases ht with hr | hk
  · have hk : ¬ (x.k = 30 ∨ x.k = 31) := fun e => hr (rol_call e)
    rw [if_neg hk]
    obtain ⟨j, hj⟩ := h.pair i x hx hr
    have hl := hj.lt
    obtain ⟨x', y, h1, _, _, _, h5, _⟩ := hj
    rw [hx] at h1; cases h1
    exact ⟨j, h5, hl.2⟩
  · rw [if_pos hk]
    obtain ⟨p, e, hp, hs⟩ := h.call i x hx hk
    have ha : tv x.k x.a x.b = x.a := by
      rcases hk with hk | hk <;> rw [hk] <;> rfl
    rw [ha, hp, (part_iff l p (e : Int)).2 ⟨e, rfl, hs.1⟩]
    exact ⟨e, rfl, hs.lt.2⟩
theorem invI_vld {l : List Ins} (h : Wd l) (hn : l.length ≤ 65536) {i : Nat} {x : Ins} (hx : l[i]? = some x) : vld (invI l x) = true := by
  unfold vld invI
  rw [inv_valid]
  refine valid_re _ _ _ _ _ _ (h.vl i x hx) fun ht => ?_
  obtain ⟨q, hq, hl⟩ := h.target hx ht
  omega
theorem invI_tgt {l : List Ins} (x : Ins) (ht : tb x.k = true) : tgt (invI l x) = (l.length : Int) - 1 - invT l x := by
  unfold tgt invI
  rw [inv_tv]
  exact tv_re _ _ _ _ ht
theorem invL_back {l : List Ins} {q : Nat} {y : Ins} (hy : (invL l)[q]? = some y) : ∃ x, l[l.length - 1 - q]? = some x ∧ y = invI l x ∧ q < l.length := by
  have hq : q < l.length := by have := lt_len hy; rw [invL_len] at this; exact this
  obtain ⟨x, hx⟩ : ∃ x, l[l.length - 1 - q]? = some x := ⟨_, List.getElem?_eq_getElem (by omega)⟩
  have := invL_at hx
  rw [show l.length - 1 - (l.length - 1 - q) = q by omega, hy] at this
  exact ⟨x, hx, Option.some.inj this, hq⟩
theorem Wd.pr {l : List Ins} (h : Wd l) (hn : l.length ≤ 65536) {i j : Nat} (hp : PR l i j) : PR (invL l) (l.length - 1 - i) (l.length - 1 - j) := by
  have hl := hp.lt
  obtain ⟨x, y, h1, h2, h3, h4, h5, h6, h7, h8, h9, h10⟩ := hp
  have hyr : rol y.k ≠ 0 := by rw [h8]; exact (opp_opp _ (rol_ne h7)).2
  have hT : ∀ {z : Ins} {t : Nat}, rol z.k ≠ 0 → tgt z = t → invT l z = t := fun {z t} hz ht => by
    unfold invT; rw [if_neg (fun e => hz (rol_call e))]; exact ht
  refine ⟨invI l x, invI l y, invL_at h1, invL_at h2, invI_vld h hn h1, invI_vld h hn h2, ?_, ?_, ?_, ?_, ?_, ?_⟩
  · rw [invI_tgt x (tb_rol h7), hT h7 h5]; omega
  · rw [invI_tgt y (tb_rol hyr), hT hyr h6]; omega
  · show rol (invO x.k) ≠ 0
    rw [rol_inv]; exact (opp_opp _ (rol_ne h7)).2
  · show rol (invO y.k) = opp (rol (invO x.k))
    rw [rol_inv, rol_inv, h8]
  · intro e
    have e' : opp (rol x.k) = 3 := by rw [← rol_inv]; exact e
    have : rol x.k = 4 := by rcases rol_ne h7 with r | r | r | r <;> rw [r] at e' <;> first | exact r | exact absurd e' (by decide)
    have := h10 this
    omega
  · intro e
    have e' : opp (rol x.k) = 4 := by rw [← rol_inv]; exact e
    have : rol x.k = 3 := by rcases rol_ne h7 with r | r | r | r <;> rw [r] at e' <;> first | exact r | exact absurd e' (by decide)
    have := h9 this
    omega
theorem Wd.rp {l : List Ins} (h : Wd l) (hn : l.length ≤ 65536) {i j : Nat} (hp : PR (invL l) i j) : PR l (l.length - 1 - i) (l.length - 1 - j) := by
  have hl := hp.lt
  rw [invL_len] at hl
  obtain ⟨y, h1⟩ : ∃ y, (invL l)[i]? = some y := ⟨_, List.getElem?_eq_getElem (by rw [invL_len]; exact hl.1)⟩
  have hr := pr_role hp h1
  obtain ⟨x, hx, rfl, _⟩ := invL_back h1
  have hrx : rol x.k ≠ 0 := by
    intro e
    apply hr
    show rol (invO x.k) = 0
    rw [rol_inv, e]; rfl
  obtain ⟨q, hq⟩ := h.pair _ _ hx hrx
  have hq2 := h.pr hn hq
  rw [show l.length - 1 - (l.length - 1 - i) = i by omega] at hq2
  have := hp.fun hq2
  have hql := hq.lt.2
  rw [show l.length - 1 - j = q by omega]
  exact hq
theorem Wd.st {l : List Ins} (h : Wd l) (hn : l.length ≤ 65536) {s e : Nat} (hs : St l s e) : St (invL l) (l.length - 1 - e) (l.length - 1 - s) := by
  refine ⟨(h.pr hn hs.1).symm, ?_⟩
  obtain ⟨x, y, h1, h2, h3, h4, h5, h6, h7, h8, h9, h10⟩ := hs.1
  have hk : x.k = 32 := by have := hs.2; rw [h1] at this; simpa using this
  have hy : y.k = 33 := (rol4 _).1 (by rw [h8, hk]; rfl)
  rw [invL_at h2]
  show some (invO y.k) = some 32
  rw [hy]; rfl
theorem Wd.ts {l : List Ins} (h : Wd l) (hn : l.length ≤ 65536) {s e : Nat} (hs : St (invL l) s e) : St l (l.length - 1 - e) (l.length - 1 - s) := by
  refine ⟨(h.rp hn hs.1).symm, ?_⟩
  have hl := hs.lt
  rw [invL_len] at hl
  obtain ⟨y, h1⟩ : ∃ y, (invL l)[s]? = some y := ⟨_, List.getElem?_eq_getElem (by rw [invL_len]; omega)⟩
  have hk : y.k = 32 := by have := hs.2; rw [h1] at this; simpa using this
  obtain ⟨x, hx, rfl, _⟩ := invL_back h1
  have hk' : invO x.k = 32 := hk
  have hx33 : x.k = 33 := by have := inv_inv x.k; rw [hk'] at this; exact this.symm
  have hp := h.rp hn hs.1
  obtain ⟨x', y', g1, g2, _, _, _, _, _, g8, _⟩ := hp
  rw [hx] at g1; cases g1
  rw [g2]
  rw [hx33] at g8
  simp only [Option.map_some, Option.some.injEq]
  exact (rol3 _).1 g8
theorem Wd.inv {l : List Ins} (h : Wd l) (hn : l.length ≤ 65536) : Wd (invL l) := by
  refine ⟨fun i y hy => ?_, fun i y hy hk => ?_, fun i y hy hr => ?_, fun s e s' e' hs hs' hlt => ?_, fun i j y hy hr hp s e hs => ?_⟩
  · obtain ⟨x, hx, rfl, _⟩ := invL_back hy
    exact invI_vld h hn hx
  · obtain ⟨x, hx, rfl, _⟩ := invL_back hy
    have hk' : invO x.k = 30 ∨ invO x.k = 31 := hk
    have hxk : x.k = 30 ∨ x.k = 31 := by
      have := inv_inv x.k
      rcases hk' with e | e <;> rw [e] at this
      · exact .inl this.symm
      · exact .inr this.symm
    obtain ⟨p, e, hp, hs⟩ := h.call _ x hx hxk
    refine ⟨l.length - 1 - e, l.length - 1 - p, ?_, h.st hn hs⟩
    have ha : tv x.k x.a x.b = x.a := by rcases hxk with hk | hk <;> rw [hk] <;> rfl
    have hT : invT l x = e := by unfold invT; rw [if_pos hxk, ha, hp, (part_iff l p (e : Int)).2 ⟨e, rfl, hs.1⟩]; rfl
    have hl := hs.lt
    show rta x.k x.a ((l.length : Int) - 1 - invT l x) = _
    rw [hT]
    have : rta x.k x.a ((l.length : Int) - 1 - e) = (l.length : Int) - 1 - e := by rcases hxk with hk | hk <;> rw [hk] <;> rfl
    rw [this]; omega
  · obtain ⟨x, hx, rfl, hi⟩ := invL_back hy
    have hrx : rol x.k ≠ 0 := by
      intro e
      apply hr
      show rol (invO x.k) = 0
      rw [rol_inv, e]; rfl
    obtain ⟨q, hq⟩ := h.pair _ _ hx hrx
    have := h.pr hn hq
    rw [show l.length - 1 - (l.length - 1 - i) = i by omega] at this
    exact ⟨_, this⟩
  · have h1 := h.ts hn hs
    have h2 := h.ts hn hs'
    have l1 := hs.lt
    have l2 := hs'.lt
    rw [invL_len] at l1 l2
    rcases Nat.lt_or_ge e s' with h5 | h5
    · exact h5
    · exfalso
      rcases Nat.lt_trichotomy e e' with h6 | h6 | h6
      · have := h.disj _ _ _ _ h2 h1 (by omega); omega
      · have := h2.fun (h6 ▸ h1); omega
      · have := h.disj _ _ _ _ h1 h2 (by omega); omega
  · obtain ⟨x, hx, rfl, hi⟩ := invL_back hy
    have hp' := h.rp hn hp
    have hr' : rol x.k = 1 ∨ rol x.k = 2 := by
      have hh : opp (rol x.k) = 1 ∨ opp (rol x.k) = 2 := by rw [← rol_inv]; exact hr
      rcases rol_cases x.k with r | r | r | r | r <;> rw [r] at hh ⊢ <;> first | exact absurd hh (by decide) | decide
    have := h.jumps _ _ x hx hr' hp' _ _ (h.ts hn hs)
    have l1 := hs.lt
    have l2 := hp.lt
    rw [invL_len] at l1 l2
    omega
/-- inverting twice -/
theorem Wd.twice {l : List Ins} (h : Wd l) (hn : l.length ≤ 65536) : invL (invL l) = l := by
  refine List.ext_getElem? fun i => ?_
  rcases Nat.lt_or_ge i l.length with hi | hi
  · obtain ⟨x, hx⟩ : ∃ x, l[i]? = some x := ⟨_, List.getElem?_eq_getElem hi⟩
    have h1 := invL_at hx
    have h2 := invL_at h1
    rw [invL_len, show l.length - 1 - (l.length - 1 - i) = i by omega] at h2
    rw [h2, hx]
    congr 1
    have hT : tb x.k = true → (l.length : Int) - 1 - invT (invL l) (invI l x) = tv x.k x.a x.b := fun ht => by
      rcases tb_cases ht with hr | hk
      · have hk : ¬ (x.k = 30 ∨ x.k = 31) := fun e => hr (rol_call e)
        have hk2 : ¬ ((invI l x).k = 30 ∨ (invI l x).k = 31) := fun e => by
          have e' : rol (invO x.k) = 0 := rol_call e
          rw [rol_inv] at e'
          exact (opp_opp _ (rol_ne hr)).2 e'
        have h3 := invI_tgt (l := l) x ht
        unfold invT
        rw [if_neg hk2]
        show (l.length : Int) - 1 - tgt (invI l x) = _
        rw [h3]
        unfold invT
        rw [if_neg hk]
        omega
      · obtain ⟨p, e, hp, hs⟩ := h.call i x hx hk
        have ha : tv x.k x.a x.b = x.a := by rcases hk with hk | hk <;> rw [hk] <;> rfl
        have hT : invT l x = e := by unfold invT; rw [if_pos hk, ha, hp, (part_iff l p (e : Int)).2 ⟨e, rfl, hs.1⟩]; rfl
        have hl := hs.lt
        have hk2 : (invI l x).k = 30 ∨ (invI l x).k = 31 := by show invO x.k = 30 ∨ invO x.k = 31; rw [invO_call hk]; exact hk
        have h3 := invI_tgt (l := l) x ht
        rw [ha, hp]
        unfold invT
        rw [if_pos hk2]
        show (l.length : Int) - 1 - ((part (invL l) (tgt (invI l x))).getD 0) = _
        rw [h3, hT, show (l.length : Int) - 1 - (e : Int) = ((l.length - 1 - e : Nat) : Int) by omega, (part_iff (invL l) _ ((l.length - 1 - p : Nat) : Int)).2 ⟨_, rfl, (h.st hn hs).1⟩]
        simp only [Option.getD_some]
        omega
    show Ins.mk (invO (invO x.k)) (rta (invO x.k) (rta x.k x.a _) ((invL l).length - 1 - invT (invL l) (invI l x))) (rtb (invO x.k) (rtb x.k x.b _) ((invL l).length - 1 - invT (invL l) (invI l x))) x.c x.d = x
    rw [inv_inv, rta_inv, rtb_inv, re_re, re_reb, invL_len]
    cases ht : tb x.k
    · rw [rta_no ht, rtb_no ht]
    · rw [hT ht, rta_self, rtb_self]
  · rw [List.getElem?_eq_none (by rw [invL_len, invL_len]; exact hi), List.getElem?_eq_none hi]
def shI (by_ : Int) (x : Ins) : Ins := ⟨x.k, rta x.k x.a (tv x.k x.a x.b + by_), rtb x.k x.b (tv x.k x.a x.b + by_), x.c, x.d⟩
def sh (l : List Ins) (by_ : Int) : List Ins := l.map (shI by_)
theorem sh_len (l : List Ins) (t : Int) : (sh l t).length = l.length := by simp [sh]
theorem sh_at {l : List Ins} {t : Int} {i : Nat} : (sh l t)[i]? = (l[i]?).map (shI t) := by unfold sh; rw [List.getElem?_map]
theorem shI_tgt (t : Int) (x : Ins) (h : tb x.k = true) : tgt (shI t x) = tgt x + t := by
  show tv x.k (rta x.k x.a _) (rtb x.k x.b _) = _
  rw [tv_re _ _ _ _ h]; rfl
def J (a b : List Ins) : List Ins := a ++ sh b a.length
theorem J_len (a b : List Ins) : (J a b).length = a.length + b.length := by unfold J; rw [List.length_append, sh_len]
theorem J_l {a b : List Ins} {i : Nat} (h : i < a.length) : (J a b)[i]? = a[i]? := by unfold J; rw [List.getElem?_append_left h]
theorem J_r {a b : List Ins} (i : Nat) : (J a b)[a.length + i]? = (b[i]?).map (shI a.length) := by
  unfold J; rw [List.getElem?_append_right (by omega), show a.length + i - a.length = i by omega, sh_at]
theorem J_cases {a b : List Ins} {i : Nat} {x : Ins} (h : (J a b)[i]? = some x) : (i < a.length ∧ a[i]? = some x) ∨ ∃ i' y, i = a.length + i' ∧ b[i']? = some y ∧ x = shI a.length y := by
  rcases Nat.lt_or_ge i a.length with hi | hi
  · rw [J_l hi] at h; exact .inl ⟨hi, h⟩
  · obtain ⟨i', rfl⟩ : ∃ i', i = a.length + i' := ⟨i - a.length, by omega⟩
    rw [J_r] at h
    cases hb : b[i']? with
    | none => rw [hb] at h; cases h
    | some y => rw [hb] at h; exact .inr ⟨i', y, rfl, hb, (Option.some.inj h).symm⟩
/-- the target itself lies in the image -/
theorem Wd.tgt_in {l : List Ins} (h : Wd l) {i : Nat} {x : Ins} (hx : l[i]? = some x) (ht : tb x.k = true) : 0 ≤ tv x.k x.a x.b ∧ tv x.k x.a x.b < l.length := by
  rcases tb_cases ht with hr | hk
  · obtain ⟨j, hj⟩ := h.pair i x hx hr
    have hl := hj.lt
    obtain ⟨x', y, h1, _, _, _, h5, _⟩ := hj
    rw [hx] at h1; cases h1
    have : tv x.k x.a x.b = j := h5
    omega
  · obtain ⟨p, e, hp, hs⟩ := h.call i x hx hk
    have ha : tv x.k x.a x.b = x.a := by rcases hk with hk | hk <;> rw [hk] <;> rfl
    have := hs.lt
    omega
theorem shI_vld {l : List Ins} (h : Wd l) {i : Nat} {x : Ins} (hx : l[i]? = some x) {t : Nat} (ht : t + l.length ≤ 65536) : vld (shI t x) = true := by
  unfold vld shI
  refine valid_re _ _ _ _ _ _ (h.vl i x hx) fun hb => ?_
  have := h.tgt_in hx hb
  omega
theorem J_pr_l {a b : List Ins} {i j : Nat} (h : PR a i j) : PR (J a b) i j := by
  have hl := h.lt
  obtain ⟨x, y, h1, h2, h3⟩ := h
  exact ⟨x, y, by rw [J_l hl.1]; exact h1, by rw [J_l hl.2]; exact h2, h3⟩
theorem J_pr_r {a b : List Ins} (hb : Wd b) (hn : a.length + b.length ≤ 65536) {i j : Nat} (h : PR b i j) : PR (J a b) (a.length + i) (a.length + j) := by
  obtain ⟨x, y, h1, h2, h3, h4, h5, h6, h7, h8, h9, h10⟩ := h
  have hyr : rol y.k ≠ 0 := by rw [h8]; exact (opp_opp _ (rol_ne h7)).2
  refine ⟨shI a.length x, shI a.length y, by rw [J_r, h1]; rfl, by rw [J_r, h2]; rfl, shI_vld hb h1 hn, shI_vld hb h2 hn, ?_, ?_, h7, h8, fun e => ?_, fun e => ?_⟩
  · rw [shI_tgt _ _ (tb_rol h7), h5]; omega
  · rw [shI_tgt _ _ (tb_rol hyr), h6]; omega
  · have := h9 e; omega
  · have := h10 e; omega
theorem J_pr {a b : List Ins} (ha : Wd a) (hb : Wd b) (hn : a.length + b.length ≤ 65536) {i j : Nat} (h : PR (J a b) i j) : PR a i j ∨ ∃ i' j', i = a.length + i' ∧ j = a.length + j' ∧ PR b i' j' := by
  obtain ⟨x, hx⟩ : ∃ x, (J a b)[i]? = some x := ⟨_, List.getElem?_eq_getElem h.lt.1⟩
  have hr := pr_role h hx
  rcases J_cases hx with ⟨hi, hx1⟩ | ⟨i', y, rfl, hy, rfl⟩
  · obtain ⟨q, hq⟩ := ha.pair i x hx1 hr
    have := h.fun (J_pr_l hq)
    subst this
    exact .inl hq
  · obtain ⟨q, hq⟩ := hb.pair i' y hy hr
    have := h.fun (J_pr_r (a := a) hb hn hq)
    subst this
    exact .inr ⟨i', q, rfl, rfl, hq⟩
theorem J_st_l {a b : List Ins} {s e : Nat} (h : St a s e) : St (J a b) s e := ⟨J_pr_l h.1, by rw [J_l h.1.lt.1]; exact h.2⟩
theorem J_st_r {a b : List Ins} (hb : Wd b) (hn : a.length + b.length ≤ 65536) {s e : Nat} (h : St b s e) : St (J a b) (a.length + s) (a.length + e) := by
  refine ⟨J_pr_r hb hn h.1, ?_⟩
  rw [J_r]
  have := h.2
  cases hx : b[s]? with
  | none => rw [hx] at this; cases this
  | some x => rw [hx] at this; exact this
theorem J_st {a b : List Ins} (ha : Wd a) (hb : Wd b) (hn : a.length + b.length ≤ 65536) {s e : Nat} (h : St (J a b) s e) : St a s e ∨ ∃ s' e', s = a.length + s' ∧ e = a.length + e' ∧ St b s' e' := by
  rcases J_pr ha hb hn h.1 with hp | ⟨s', e', rfl, rfl, hp⟩
  · refine .inl ⟨hp, ?_⟩
    have := h.2
    rwa [J_l hp.lt.1] at this
  · refine .inr ⟨s', e', rfl, rfl, hp, ?_⟩
    have := h.2
    rw [J_r] at this
    cases hx : b[s']? with
    | none => rw [hx] at this; cases this
    | some x => rw [hx] at this; exact this
theorem Wd.join {a b : List Ins} (ha : Wd a) (hb : Wd b) (hn : a.length + b.length ≤ 65536) : Wd (J a b) := by
  refine ⟨fun i x hx => ?_, fun i x hx hk => ?_, fun i x hx hr => ?_, fun s e s' e' hs hs' hlt => ?_, fun i j x hx hr hp s e hs => ?_⟩
  · rcases J_cases hx with ⟨_, hx⟩ | ⟨i', y, rfl, hy, rfl⟩
    · exact ha.vl i x hx
    · exact shI_vld hb hy hn
  · rcases J_cases hx with ⟨_, hx⟩ | ⟨i', y, rfl, hy, rfl⟩
    · obtain ⟨p, e, h1, h2⟩ := ha.call i x hx hk
      exact ⟨p, e, h1, J_st_l h2⟩
    · have hk' : y.k = 30 ∨ y.k = 31 := hk
      obtain ⟨p, e, h1, h2⟩ := hb.call i' y hy hk'
      refine ⟨a.length + p, a.length + e, ?_, J_st_r hb hn h2⟩
      have e1 : tv y.k y.a y.b = y.a := by rcases hk' with hk | hk <;> rw [hk] <;> rfl
      have e2 : rta y.k y.a (tv y.k y.a y.b + a.length) = tv y.k y.a y.b + a.length := by rcases hk' with hk | hk <;> rw [hk] <;> rfl
      show rta y.k y.a (tv y.k y.a y.b + a.length) = _
      rw [e2, e1, h1]; omega
  · rcases J_cases hx with ⟨_, hx⟩ | ⟨i', y, rfl, hy, rfl⟩
    · obtain ⟨q, hq⟩ := ha.pair i x hx hr
      exact ⟨q, J_pr_l hq⟩
    · obtain ⟨q, hq⟩ := hb.pair i' y hy hr
      exact ⟨_, J_pr_r hb hn hq⟩
  · rcases J_st ha hb hn hs with h1 | ⟨s1, e1, rfl, rfl, h1⟩
    · rcases J_st ha hb hn hs' with h2 | ⟨s2, e2, rfl, rfl, h2⟩
      · exact ha.disj _ _ _ _ h1 h2 hlt
      · have := h1.lt; omega
    · rcases J_st ha hb hn hs' with h2 | ⟨s2, e2, rfl, rfl, h2⟩
      · have := h2.lt; omega
      · have := hb.disj _ _ _ _ h1 h2 (by omega); omega
  · rcases J_pr ha hb hn hp with hq | ⟨i', j', rfl, rfl, hq⟩
    · have hx2 : a[i]? = some x := by rw [J_l hq.lt.1] at hx; exact hx
      rcases J_st ha hb hn hs with h1 | ⟨s1, e1, rfl, rfl, h1⟩
      · exact ha.jumps i j x hx2 hr hq s e h1
      · have := hq.lt; omega
    · rw [J_r] at hx
      cases hy : b[i']? with
      | none => rw [hy] at hx; cases hx
      | some y =>
        rw [hy] at hx
        have hxy : shI a.length y = x := Option.some.inj hx
        have hr' : rol y.k = 1 ∨ rol y.k = 2 := by rw [← hxy] at hr; exact hr
        rcases J_st ha hb hn hs with h1 | ⟨s1, e1, rfl, rfl, h1⟩
        · have := h1.lt; omega
        · have := hb.jumps i' j' y hy hr' hq s1 e1 h1; omega
theorem part_of_none {l : List Ins} {i : Nat} (h : ∀ j, ¬ PR l i j) : part l i = none := by
  cases hp : part l i with
  | none => rfl
  | some t => obtain ⟨j, _, hj⟩ := (part_iff l i t).1 hp; exact absurd hj (h j)
theorem J_invI_l {a b : List Ins} (ha : Wd a) {i : Nat} {x : Ins} (hx : a[i]? = some x) : invI (J a b) x = shI b.length (invI a x) := by
  have hT : tb x.k = true → invT (J a b) x = invT a x := fun ht => by
    unfold invT
    by_cases hk : x.k = 30 ∨ x.k = 31
    · rw [if_pos hk, if_pos hk]
      obtain ⟨p, e, h1, h2⟩ := ha.call i x hx hk
      have ht : tv x.k x.a x.b = p := by rw [← h1]; rcases hk with hk | hk <;> rw [hk] <;> rfl
      rw [ht, (part_iff _ _ (e : Int)).2 ⟨e, rfl, h2.1⟩, (part_iff _ _ (e : Int)).2 ⟨e, rfl, J_pr_l h2.1⟩]
    · rw [if_neg hk, if_neg hk]
  cases hb : tb x.k
  · have hb2 : tb (invO x.k) = false := by rw [inv_tb]; exact hb
    unfold invI shI
    simp only
    rw [rta_no hb, rtb_no hb, rta_no hb, rtb_no hb, rta_no hb2, rtb_no hb2]
  · have e : tv (invO x.k) (rta x.k x.a ((a.length : Int) - 1 - invT a x)) (rtb x.k x.b ((a.length : Int) - 1 - invT a x)) = (a.length : Int) - 1 - invT a x := by rw [inv_tv]; exact tv_re _ _ _ _ hb
    unfold invI shI
    simp only
    rw [e, hT hb, J_len, rta_inv, rtb_inv, re_re, re_reb, show ((a.length + b.length : Nat) : Int) - 1 - invT a x = (a.length : Int) - 1 - invT a x + b.length by omega]
theorem J_invI_r {a b : List Ins} (hb : Wd b) (hn : a.length + b.length ≤ 65536) {i : Nat} {y : Ins} (hy : b[i]? = some y) : invI (J a b) (shI a.length y) = invI b y := by
  cases ht : tb y.k
  · unfold invI shI
    simp only
    rw [rta_no ht, rtb_no ht, rta_no ht, rtb_no ht, rta_no ht, rtb_no ht]
  · have hT : invT (J a b) (shI a.length y) = invT b y + a.length := by
      have htg : tv (shI a.length y).k (shI a.length y).a (shI a.length y).b = tv y.k y.a y.b + a.length := tv_re _ _ _ _ ht
      unfold invT
      rw [htg]
      by_cases hk : y.k = 30 ∨ y.k = 31
      · rw [if_pos (show (shI a.length y).k = 30 ∨ (shI a.length y).k = 31 from hk), if_pos hk]
        obtain ⟨p, e, h1, h2⟩ := hb.call i y hy hk
        have ht : tv y.k y.a y.b = p := by rw [← h1]; rcases hk with hk | hk <;> rw [hk] <;> rfl
        rw [ht, show (p : Int) + a.length = ((a.length + p : Nat) : Int) by omega, (part_iff _ _ (e : Int)).2 ⟨e, rfl, h2.1⟩, (part_iff _ _ ((a.length + e : Nat) : Int)).2 ⟨_, rfl, J_pr_r hb hn h2.1⟩]
        simp only [Option.getD_some]
        omega
      · rw [if_neg (show ¬ ((shI a.length y).k = 30 ∨ (shI a.length y).k = 31) from hk), if_neg hk]
    unfold invI
    rw [hT, J_len, show ((a.length + b.length : Nat) : Int) - 1 - (invT b y + a.length) = (b.length : Int) - 1 - invT b y by omega]
    show Ins.mk (invO y.k) (rta y.k (rta y.k y.a _) _) (rtb y.k (rtb y.k y.b _) _) y.c y.d = _
    rw [re_re, re_reb]
theorem J_inv {a b : List Ins} (ha : Wd a) (hb : Wd b) (hn : a.length + b.length ≤ 65536) : invL (J a b) = invL b ++ sh (invL a) b.length := by
  have h1 : (a.map (invI (J a b))) = a.map (fun x => shI b.length (invI a x)) := by
    refine List.ext_getElem? fun i => ?_
    rw [List.getElem?_map, List.getElem?_map]
    cases hx : a[i]? with
    | none => rfl
    | some x => simp only [Option.map_some]; rw [J_invI_l ha hx]
  have h2 : ((sh b a.length).map (invI (J a b))) = b.map (invI b) := by
    refine List.ext_getElem? fun i => ?_
    rw [List.getElem?_map, List.getElem?_map, sh_at]
    cases hx : b[i]? with
    | none => rfl
    | some x => simp only [Option.map_some]; rw [J_invI_r hb hn hx]
  have h0 : invL (J a b) = ((a ++ sh b a.length).map (invI (J a b))).reverse := rfl
  rw [h0, List.map_append, List.reverse_append, h1, h2]
  unfold invL sh
  rw [List.map_reverse, List.map_map]
  rfl
theorem sh_wf {l : List Ins} (h : WF l) (t : Int) : WF (sh l t) := fun y hy => by
  obtain ⟨x, hx, rfl⟩ := List.mem_map.1 hy
  exact h x hx
theorem J_wf {a b : List Ins} (ha : WF a) (hb : WF b) : WF (J a b) := fun y hy => by
  rcases List.mem_append.1 hy with h | h
  · exact ha y h
  · exact sh_wf hb _ y h
section
variable {α : Type} (c : α → α → Bool)
/-- one letter onto the stack (the head is the top) -/
def psh (st : List α) (a : α) : List α := match st with | [] => [a] | t :: r => if c t a then r else a :: t :: r
/-- no neighbours of a stack cancel -/
def Nf : List α → Prop | [] => True | [_] => True | x :: y :: r => c y x = false ∧ Nf (y :: r)
/-- no neighbours of a word cancel -/
def Nw (w : List α) : Prop := ∀ (i : Nat) (x y : α), w[i]? = some x → w[i + 1]? = some y → c x y = false
def red (w : List α) : List α := (w.foldl (psh c) []).reverse
variable {c}
theorem Nf.tail {x : α} {st : List α} (h : Nf c (x :: st)) : Nf c st := by
  cases st with
  | nil => trivial
  | cons y r => exact h.2
theorem nf_psh {st : List α} {a : α} (h : Nf c st) : Nf c (psh c st a) := by
  cases st with
  | nil => trivial
  | cons t r =>
    unfold psh
    by_cases ht : c t a = true
    · simp only [ht, if_true]; exact h.tail
    · simp only [ht]; exact ⟨by simpa using ht, h⟩
theorem nf_run {st : List α} (w : List α) (h : Nf c st) : Nf c (w.foldl (psh c) st) := by
  induction w generalizing st with
  | nil => exact h
  | cons a w ih => exact ih (nf_psh h)
theorem psh_two (hc : ∀ t a b, c t a = true → c a b = true → b = t) {st : List α} {a b : α} (h : Nf c st) (hab : c a b = true) : psh c (psh c st a) b = st := by
  cases st with
  | nil => simp [psh, hab]
  | cons t r =>
    by_cases ht : c t a = true
    · have e := hc t a b ht hab
      subst e
      cases r with
      | nil => simp [psh, ht]
      | cons u r =>
        have hu : c u b = false := h.1
        simp [psh, ht, hu]
    · simp [psh, ht, hab]
theorem red_cut (hc : ∀ t a b, c t a = true → c a b = true → b = t) {a b : α} (hab : c a b = true) (u v : List α) : red c (u ++ a :: b :: v) = red c (u ++ v) := by
  unfold red
  rw [List.foldl_append, List.foldl_append, List.foldl_cons, List.foldl_cons, psh_two hc (nf_run u (by trivial)) hab]
theorem run_nw (w : List α) (st : List α) (h : Nw c w) (hs : ∀ x y, st.head? = some x → w.head? = some y → c x y = false) : w.foldl (psh c) st = w.reverse ++ st := by
  induction w generalizing st with
  | nil => rfl
  | cons a w ih =>
    have e : psh c st a = a :: st := by
      cases st with
      | nil => rfl
      | cons t r =>
        have := hs t a rfl rfl
        simp [psh, this]
    rw [List.foldl_cons, e, ih (a :: st) (fun i x y hx hy => h (i + 1) x y hx hy) (fun x y hx hy => by
      cases hx
      cases w with
      | nil => cases hy
      | cons z w => cases hy; exact h 0 _ _ rfl rfl)]
    simp
theorem red_nw {w : List α} (h : Nw c w) : red c w = w := by
  unfold red
  rw [run_nw w [] h (fun x y hx => by cases hx)]
  simp
theorem nf_get {st : List α} (h : Nf c st) {i : Nat} {x y : α} (hx : st[i]? = some x) (hy : st[i + 1]? = some y) : c y x = false := by
  induction st generalizing i with
  | nil => cases hx
  | cons a r ih =>
    cases i with
    | zero =>
      cases r with
      | nil => cases hy
      | cons b r =>
        cases hx; cases hy
        exact h.1
    | succ i => exact ih h.tail hx hy
theorem nw_red (w : List α) : Nw c (red c w) := by
  intro i x y hx hy
  have hn : Nf c (w.foldl (psh c) []) := nf_run w (by trivial)
  unfold red at hx hy
  generalize w.foldl (psh c) [] = st at hx hy hn
  have h1 := (List.getElem?_eq_some_iff.1 hy).1
  rw [List.length_reverse] at h1
  rw [List.getElem?_reverse (by omega)] at hx hy
  have e : st.length - 1 - i = st.length - 1 - (i + 1) + 1 := by omega
  rw [e] at hx
  exact nf_get hn hy hx
theorem red_red (w : List α) : red c (red c w) = red c w := red_nw (nw_red w)
/-- a word without a pair that has the same stack's word is the stack's word -/
theorem red_eq {w u : List α} (h : red c u = red c w) (hu : Nw c u) : u = red c w := by rw [← h, red_nw hu]
theorem red_append (hc : ∀ t a b, c t a = true → c a b = true → b = t) (u v : List α) : red c (u ++ v) = red c (red c u ++ v) := by
  unfold red
  rw [List.foldl_append, List.foldl_append]
  have := red_nw (nw_red (c := c) u)
  unfold red at this
  rw [← List.reverse_inj, List.reverse_reverse] at this
  congr 2
  rw [List.reverse_reverse] at this
  exact this.symm
theorem red_vanish (hc : ∀ t a b, c t a = true → c a b = true → b = t) (i : α → α) (l : List α) (hl : ∀ a ∈ l, c a (i a) = true) (u v : List α) : red c (u ++ (l ++ (l.map i).reverse) ++ v) = red c (u ++ v) := by
  induction l generalizing u v with
  | nil => simp
  | cons a l ih =>
    have e : u ++ (a :: l ++ ((a :: l).map i).reverse) ++ v = (u ++ [a]) ++ (l ++ (l.map i).reverse) ++ (i a :: v) := by simp
    rw [e, ih (fun x hx => hl x (List.mem_cons_of_mem _ hx)) (u ++ [a]) (i a :: v)]
    have e2 : u ++ [a] ++ (i a :: v) = u ++ a :: i a :: v := by simp
    rw [e2, red_cut hc (hl a (List.mem_cons_self ..))]
theorem cut_inv {β : Type} (f : List α → β) (hf : ∀ (u v : List α) (a b : α), c a b = true → f (u ++ a :: b :: v) = f (u ++ v)) (w st : List α) : f (st.reverse ++ w) = f ((w.foldl (psh c) st).reverse) := by
  induction w generalizing st with
  | nil => simp
  | cons a w ih =>
    rw [List.foldl_cons]
    cases st with
    | nil => exact ih [a]
    | cons t r =>
      by_cases ht : c t a = true
      · have e : psh c (t :: r) a = r := by simp [psh, ht]
        rw [e, ← ih r]
        have e2 : (t :: r).reverse ++ a :: w = r.reverse ++ t :: a :: w := by simp
        rw [e2, hf _ _ _ _ ht]
      · have e : psh c (t :: r) a = a :: t :: r := by simp [psh, ht]
        rw [e, ← ih (a :: t :: r)]
        congr 1
        simp
/-- what no cut changes, the stack's word has as the word -/
theorem inv_red {β : Type} (f : List α → β) (hf : ∀ (u v : List α) (a b : α), c a b = true → f (u ++ a :: b :: v) = f (u ++ v)) (w : List α) : f (red c w) = f w := by
  have := cut_inv f hf w []
  exact this.symm
theorem red_rev (hc : ∀ t a b, c t a = true → c a b = true → b = t) (i : α → α) (w : List α) (h1 : ∀ a b, c a b = true → c (i b) (i a) = true) (h2 : ∀ a b, a ∈ w → b ∈ w → c (i b) (i a) = true → c a b = true) : red c ((w.map i).reverse) = ((red c w).map i).reverse := by
  have hsub : ∀ x ∈ red c w, x ∈ w := by
    have key : ∀ (w st : List α), ∀ x ∈ w.foldl (psh c) st, x ∈ st ∨ x ∈ w := by
      intro w
      induction w with
      | nil => intro st x hx; exact .inl hx
      | cons a w ih =>
        intro st x hx
        rcases ih _ x hx with h | h
        · cases st with
          | nil => exact .inr (by simp [psh] at h; simp [h])
          | cons t r =>
            unfold psh at h
            by_cases ht : c t a = true
            · simp only [ht, if_true] at h; exact .inl (List.mem_cons_of_mem _ h)
            · simp only [ht] at h
              rcases List.mem_cons.1 h with rfl | h
              · exact .inr (List.mem_cons_self ..)
              · exact .inl h
        · exact .inr (List.mem_cons_of_mem _ h)
    intro x hx
    rcases key w [] x (List.mem_reverse.1 hx) with h | h
    · cases h
    · exact h
  have e := inv_red (c := c) (fun u => red c ((u.map i).reverse)) (fun u v a b hab => by
    simp only [List.map_append, List.map_cons, List.reverse_append, List.reverse_cons, List.append_assoc, List.singleton_append]
    exact red_cut hc (h1 a b hab) _ _) w
  rw [← e]
  refine red_nw fun j x y hx hy => ?_
  have h3 := (List.getElem?_eq_some_iff.1 hy).1
  simp only [List.length_reverse, List.length_map] at h3
  rw [List.getElem?_reverse (by simp only [List.length_map]; omega), List.getElem?_map, List.length_map] at hx hy
  obtain ⟨p, hp, rfl⟩ := Option.map_eq_some_iff.1 hx
  obtain ⟨q, hq, rfl⟩ := Option.map_eq_some_iff.1 hy
  have e3 : (red c w).length - 1 - j = (red c w).length - 1 - (j + 1) + 1 := by omega
  rw [e3] at hp
  have := nw_red w _ q p hq hp
  by_cases hh : c (i p) (i q) = true
  · rw [h2 q p (hsub _ (List.mem_of_getElem? hq)) (hsub _ (List.mem_of_getElem? hp)) hh] at this; cases this
  · simpa using hh
end
def inI (x : Ins) : Ins := ⟨invO x.k, x.a, x.b, x.c, x.d⟩
/-- whether y, directly behind x, undoes it -/
def can (x y : Ins) : Bool := !tb x.k && (decide (x.k ≠ 34 ∧ x.k ≠ 21 ∧ x.k ≠ 0) && (vld x && (y == inI x)))
theorem can_iff {x y : Ins} : can x y = true ↔ tb x.k = false ∧ x.k ≠ 34 ∧ x.k ≠ 21 ∧ x.k ≠ 0 ∧ vld x = true ∧ y = inI x := by
  unfold can
  simp [and_assoc]
theorem inI_two (x : Ins) : inI (inI x) = x := by simp [inI, inv_inv]
theorem can_back {t a b : Ins} (h : can t a = true) (h' : can a b = true) : b = t := by
  obtain ⟨_, _, _, _, _, rfl⟩ := can_iff.1 h
  obtain ⟨_, _, _, _, _, rfl⟩ := can_iff.1 h'
  exact inI_two t
/-- a letter: an instruction, with its place where it has a target, and -1 elsewhere -/
def lc (p q : Ins × Int) : Bool := can p.1 q.1 && (p.2 == -1 && q.2 == -1)
theorem lc_iff {p q : Ins × Int} : lc p q = true ↔ can p.1 q.1 = true ∧ p.2 = -1 ∧ q.2 = -1 := by simp [lc]
theorem lc_back (t a b : Ins × Int) (h : lc t a = true) (h' : lc a b = true) : b = t := by
  obtain ⟨h1, h2, h3⟩ := lc_iff.1 h
  obtain ⟨h4, h5, h6⟩ := lc_iff.1 h'
  exact Prod.ext (can_back h1 h4) (h6.trans h2.symm)
def pos (w : List (Ins × Int)) (t : Int) : Nat := w.findIdx fun p => p.2 == t
def rtI (x : Ins) (v : Int) : Ins := ⟨x.k, rta x.k x.a v, rtb x.k x.b v, x.c, x.d⟩
/-- the code that a word spells -/
def outp (w : List (Ins × Int)) : List Ins := w.map fun p => rtI p.1 (pos w (tgt p.1))
def shft (t : Int) (k : Nat) : Int := if t > k then t - 2 else t
theorem pos_cut {u v : List (Ins × Int)} {a b : Ins × Int} {t : Int} (ha : a.2 = -1) (hb : b.2 = -1) (ht : 0 ≤ t) (hin : ∃ p ∈ u ++ v, p.2 = t) : (pos (u ++ v) t : Int) = shft (pos (u ++ a :: b :: v) t) u.length := by
  unfold pos shft
  rw [List.findIdx_append, List.findIdx_append]
  have ea : (a.2 == t) = false := by rw [ha]; simp; omega
  have eb : (b.2 == t) = false := by rw [hb]; simp; omega
  rw [List.findIdx_cons, List.findIdx_cons, ea, eb]
  by_cases hu : u.findIdx (fun p => p.2 == t) < u.length
  · rw [if_pos hu, if_pos hu, if_neg (by omega)]
  · rw [if_neg hu, if_neg hu]
    simp only [cond_false]
    rw [if_pos (by omega)]
    omega
theorem rtI_tgt (x : Ins) (v : Int) (h : tb x.k = true) : tgt (rtI x v) = v := by
  unfold tgt rtI tv rta rtb
  have h' : tg x.k = 0 ∨ tg x.k = 1 := by simpa [tb] using h
  rcases h' with e | e <;> simp [e]
theorem rtI_no (x : Ins) (v : Int) (h : tb x.k = false) : rtI x v = x := by
  unfold rtI rta rtb
  have h' : ¬ (tg x.k = 0 ∨ tg x.k = 1) := by simpa [tb] using h
  rw [if_neg (fun e => h' (.inl e)), if_neg (fun e => h' (.inr e))]
theorem rtI_two (x : Ins) (u v : Int) : rtI (rtI x u) v = rtI x v := by
  unfold rtI rta rtb
  by_cases h0 : tg x.k = 0 <;> by_cases h1 : tg x.k = 1 <;> simp [h0, h1]
theorem rtI_own (x : Ins) : rtI x (tgt x) = x := by
  unfold rtI tgt tv rta rtb
  by_cases h0 : tg x.k = 0
  · simp [h0]
  · by_cases h1 : tg x.k = 1 <;> simp [h0, h1]
theorem can_rtI (x y : Ins) (u v : Int) : can (rtI x u) (rtI y v) = can x y := by
  by_cases hx : tb x.k = true
  · have h1 : can (rtI x u) (rtI y v) = false := by unfold can; rw [show (rtI x u).k = x.k from rfl, hx]; rfl
    have h2 : can x y = false := by unfold can; rw [hx]; rfl
    rw [h1, h2]
  · have hx' : tb x.k = false := by simpa using hx
    rw [rtI_no x u hx']
    by_cases hy : tb y.k = true
    · have key : ∀ z : Ins, z.k = y.k → can x z = false := fun z hz => by
        by_cases hc : can x z = true
        · obtain ⟨_, _, _, _, _, rfl⟩ := can_iff.1 hc
          have e : invO x.k = y.k := hz
          rw [← e, inv_tb, hx'] at hy
          cases hy
        · simpa using hc
      rw [key y rfl]; exact key _ rfl
    · rw [rtI_no y v (by simpa using hy)]
/-- the letters of a word are whole: whoever has no target has no place, and every target is there -/
structure Cw (w : List (Ins × Int)) : Prop where
  no : ∀ p ∈ w, tb p.1.k = false → p.2 = -1
  yes : ∀ p ∈ w, tb p.1.k = true → 0 ≤ p.2
  tin : ∀ p ∈ w, tb p.1.k = true → 0 ≤ tgt p.1 ∧ ∃ q ∈ w, q.2 = tgt p.1
theorem Cw.lc {w : List (Ins × Int)} (h : Cw w) {p q : Ins × Int} (hp : p ∈ w) (hq : q ∈ w) : lc p q = can p.1 q.1 := by
  by_cases hc : can p.1 q.1 = true
  · rw [hc]
    obtain ⟨h1, h2⟩ := can_iff.1 hc
    refine lc_iff.2 ⟨hc, h.no p hp h1, h.no q hq ?_⟩
    rw [h2.2.2.2.2]
    exact (inv_tb p.1.k).trans h1
  · have hc' : can p.1 q.1 = false := by simpa using hc
    unfold Go.Proofs.YtkfmhmkeikhdbaaDoor.lc
    rw [hc']
    rfl
theorem Cw.cut {u v : List (Ins × Int)} {a b : Ins × Int} (h : Cw (u ++ a :: b :: v)) (hab : Go.Proofs.YtkfmhmkeikhdbaaDoor.lc a b = true) : Cw (u ++ v) := by
  have hsub : ∀ p ∈ u ++ v, p ∈ u ++ a :: b :: v := fun p hp => by
    rcases List.mem_append.1 hp with h1 | h1
    · exact List.mem_append_left _ h1
    · exact List.mem_append_right _ (List.mem_cons_of_mem _ (List.mem_cons_of_mem _ h1))
  obtain ⟨_, ha, hb⟩ := lc_iff.1 hab
  refine ⟨fun p hp => h.no p (hsub p hp), fun p hp => h.yes p (hsub p hp), fun p hp ht => ?_⟩
  obtain ⟨h0, q, hq, e⟩ := h.tin p (hsub p hp) ht
  refine ⟨h0, q, ?_, e⟩
  rcases List.mem_append.1 hq with h1 | h1
  · exact List.mem_append_left _ h1
  · rcases List.mem_cons.1 h1 with rfl | h2
    · omega
    · rcases List.mem_cons.1 h2 with rfl | h3
      · omega
      · exact List.mem_append_right _ h3
/-- the code without the pair at k -/
def rmv (l : List Ins) (k : Nat) : List Ins := (l.take k ++ l.drop (k + 2)).map fun x => rtI x (shft (tgt x) k)
theorem outp_cut {u v : List (Ins × Int)} {a b : Ins × Int} (h : Cw (u ++ a :: b :: v)) (hab : Go.Proofs.YtkfmhmkeikhdbaaDoor.lc a b = true) : outp (u ++ v) = rmv (outp (u ++ a :: b :: v)) u.length := by
  obtain ⟨_, ha, hb⟩ := lc_iff.1 hab
  have hc := h.cut hab
  have e : (outp (u ++ a :: b :: v)).take u.length ++ (outp (u ++ a :: b :: v)).drop (u.length + 2) = (u ++ v).map fun p => rtI p.1 (pos (u ++ a :: b :: v) (tgt p.1)) := by
    unfold outp
    rw [List.map_append, List.map_append]
    rw [List.take_append_of_le_length (by simp), List.take_of_length_le (by simp)]
    rw [List.drop_append]
    simp
  unfold rmv
  rw [e, List.map_map]
  unfold outp
  refine List.map_congr_left fun p hp => ?_
  simp only [Function.comp]
  rw [rtI_two]
  by_cases ht : tb p.1.k = true
  · rw [rtI_tgt _ _ ht, pos_cut ha hb (hc.tin p hp ht).1 (hc.tin p hp ht).2]
  · rw [rtI_no _ _ (by simpa using ht), rtI_no _ _ (by simpa using ht)]
theorem outp_len (w : List (Ins × Int)) : (outp w).length = w.length := by simp [outp]
theorem outp_at {w : List (Ins × Int)} {i : Nat} {p : Ins × Int} (h : w[i]? = some p) : (outp w)[i]? = some (rtI p.1 (pos w (tgt p.1))) := by unfold outp; rw [List.getElem?_map, h]; rfl
/-- two neighbours of the code cancel as their letters do -/
theorem outp_can {w : List (Ins × Int)} (h : Cw w) {i : Nat} {p q : Ins × Int} (hp : w[i]? = some p) (hq : w[i + 1]? = some q) : can (rtI p.1 (pos w (tgt p.1))) (rtI q.1 (pos w (tgt q.1))) = Go.Proofs.YtkfmhmkeikhdbaaDoor.lc p q := by
  rw [can_rtI, h.lc (List.mem_of_getElem? hp) (List.mem_of_getElem? hq)]
/-- the word of a code -/
def lw (l : List Ins) : List (Ins × Int) := l.mapIdx fun i x => (x, if tb x.k = true then (i : Int) else -1)
theorem lw_at (l : List Ins) (i : Nat) : (lw l)[i]? = (l[i]?).map fun x => (x, if tb x.k = true then (i : Int) else -1) := by unfold lw; rw [List.getElem?_mapIdx]
theorem lw_len (l : List Ins) : (lw l).length = l.length := by unfold lw; simp
theorem Wd.tgt_tb {l : List Ins} (h : Wd l) {i : Nat} {x : Ins} (hx : l[i]? = some x) (ht : tb x.k = true) : ∃ (j : Nat) (y : Ins), tgt x = j ∧ l[j]? = some y ∧ tb y.k = true := by
  have key : ∀ y : Ins, rol y.k ≠ 0 → tb y.k = true := fun y hy => by
    unfold rol at hy
    unfold tb tg
    split at hy
    · rename_i e; rcases e with e | e | e <;> simp [e]
    · split at hy
      · rename_i e; rcases e with e | e | e <;> simp [e]
      · split at hy
        · rename_i e; simp [e]
        · split at hy
          · rename_i e; simp [e]
          · exact absurd rfl hy
  rcases tb_cases ht with hr | hk
  · obtain ⟨j, hj⟩ := h.pair i x hx hr
    have hs := hj.symm
    obtain ⟨x', y, h1, h2, _, _, h5, _⟩ := hj
    rw [hx] at h1; cases h1
    exact ⟨j, y, h5, h2, key y (pr_role hs h2)⟩
  · obtain ⟨p, e, hp, hs⟩ := h.call i x hx hk
    have ha : tgt x = x.a := by unfold tgt; rcases hk with hk | hk <;> rw [hk] <;> rfl
    obtain ⟨y, hy⟩ : ∃ y, l[p]? = some y := ⟨_, List.getElem?_eq_getElem (show p < l.length by have := hs.lt; omega)⟩
    exact ⟨p, y, ha.trans hp, hy, key y (pr_role hs.1 hy)⟩
theorem lw_pos {l : List Ins} {j : Nat} {y : Ins} (hy : l[j]? = some y) (ht : tb y.k = true) : pos (lw l) j = j := by
  have hj : j < (lw l).length := by rw [lw_len]; exact lt_len hy
  unfold pos
  refine (List.findIdx_eq hj).2 ⟨?_, fun i hi => ?_⟩
  · have e := lw_at l j
    rw [hy, List.getElem?_eq_getElem hj] at e
    rw [Option.some.inj e]
    simp [ht]
  · have hi' : i < (lw l).length := by omega
    have e := lw_at l i
    rw [List.getElem?_eq_getElem hi', List.getElem?_eq_getElem (show i < l.length by rw [lw_len] at hi'; exact hi')] at e
    rw [Option.some.inj e]
    by_cases hb : tb (l[i]'(by rw [lw_len] at hi'; exact hi')).k = true
    · simp [hb]; omega
    · simp [hb]
theorem lw_cw {l : List Ins} (h : Wd l) : Cw (lw l) := by
  have back : ∀ p ∈ lw l, ∃ (i : Nat) (x : Ins), l[i]? = some x ∧ p = (x, if tb x.k = true then (i : Int) else -1) := fun p hp => by
    obtain ⟨i, hi⟩ := List.mem_iff_getElem?.1 hp
    rw [lw_at] at hi
    obtain ⟨x, hx, e⟩ := Option.map_eq_some_iff.1 hi
    exact ⟨i, x, hx, e.symm⟩
  refine ⟨fun p hp ht => ?_, fun p hp ht => ?_, fun p hp ht => ?_⟩
  · obtain ⟨i, x, hx, rfl⟩ := back p hp
    have ht' : tb x.k = false := ht
    simp [ht']
  · obtain ⟨i, x, hx, rfl⟩ := back p hp
    have ht' : tb x.k = true := ht
    simp [ht']
  · obtain ⟨i, x, hx, rfl⟩ := back p hp
    obtain ⟨j, y, e, hy, hb⟩ := h.tgt_tb hx ht
    have e' : tgt x = j := e
    refine ⟨by show 0 ≤ tgt x; omega, (y, (j : Int)), List.mem_iff_getElem?.2 ⟨j, ?_⟩, e'.symm⟩
    rw [lw_at, hy]
    simp [hb]
theorem outp_lw {l : List Ins} (h : Wd l) : outp (lw l) = l := by
  refine List.ext_getElem? fun i => ?_
  cases hx : l[i]? with
  | none =>
    rw [List.getElem?_eq_none_iff] at hx ⊢
    rw [outp_len, lw_len]; exact hx
  | some x =>
    have e := lw_at l i
    rw [hx] at e
    rw [outp_at e]
    by_cases ht : tb x.k = true
    · obtain ⟨j, y, ej, hy, hb⟩ := h.tgt_tb hx ht
      show some (rtI x (pos (lw l) (tgt x))) = some x
      rw [ej, lw_pos hy hb, ← ej, rtI_own]
    · show some (rtI x _) = some x
      rw [rtI_no x _ (by simpa using ht)]
/-- the code that is left -/
def opt (l : List Ins) : List Ins := outp (red lc (lw l))
/-- a word that cuts have made of another, without a pair: the word that is left -/
theorem opt_of {l : List Ins} {w : List (Ins × Int)} (h : red lc w = red lc (lw l)) (hw : Nw lc w) : outp w = opt l := by unfold opt; rw [red_eq h hw]
def up (k i : Nat) : Nat := if i < k then i else i + 2
theorem up_lt {k i j : Nat} : up k i < up k j ↔ i < j := by unfold up; split <;> split <;> omega
theorem up_le {k i j : Nat} : up k i ≤ up k j ↔ i ≤ j := by unfold up; split <;> split <;> omega
theorem up_inj {k i j : Nat} (h : up k i = up k j) : i = j := by unfold up at h; split at h <;> split at h <;> omega
theorem up_of {k q : Nat} (h : q ≠ k) (h' : q ≠ k + 1) : ∃ i, q = up k i := by
  by_cases hq : q < k
  · exact ⟨q, by unfold up; rw [if_pos hq]⟩
  · exact ⟨q - 2, by unfold up; rw [if_neg (by omega)]; omega⟩
theorem shft_up (k i : Nat) : shft (up k i) k = i := by unfold shft up; split <;> split <;> omega
/-- a pair at k cancels in a valid code -/
structure Pk (L : List Ins) (k : Nat) : Prop where
  wd : Wd L
  len : L.length ≤ 65536
  lt : k + 1 < L.length
  n0 : ∀ x, L[k]? = some x → tb x.k = false
  n1 : ∀ x, L[k + 1]? = some x → tb x.k = false
theorem Pk.of {L : List Ins} {k : Nat} {x y : Ins} (h : Wd L) (hl : L.length ≤ 65536) (hx : L[k]? = some x) (hy : L[k + 1]? = some y) (hc : can x y = true) : Pk L k := by
  obtain ⟨h1, _, _, _, _, h2⟩ := can_iff.1 hc
  refine ⟨h, hl, lt_len hy, fun z hz => by rw [hx] at hz; cases hz; exact h1, fun z hz => ?_⟩
  rw [hy] at hz; cases hz
  rw [h2]
  exact (inv_tb x.k).trans h1
theorem rmv_at (L : List Ins) (k i : Nat) (h : k + 1 < L.length) : (rmv L k)[i]? = (L[up k i]?).map fun x => rtI x (shft (tgt x) k) := by
  unfold rmv up
  rw [List.getElem?_map]
  congr 1
  by_cases hi : i < k
  · rw [if_pos hi, List.getElem?_append_left (by rw [List.length_take]; omega), List.getElem?_take_of_lt hi]
  · rw [if_neg hi, List.getElem?_append_right (by rw [List.length_take]; omega), List.getElem?_drop, List.length_take]
    congr 1
    omega
theorem rmv_len (L : List Ins) (k : Nat) (h : k + 1 < L.length) : (rmv L k).length = L.length - 2 := by
  unfold rmv
  rw [List.length_map, List.length_append, List.length_take, List.length_drop]
  omega
theorem rmv_back {L : List Ins} {k i : Nat} {z : Ins} (h : k + 1 < L.length) (hz : (rmv L k)[i]? = some z) : ∃ x, L[up k i]? = some x ∧ z = rtI x (shft (tgt x) k) := by
  rw [rmv_at L k i h] at hz
  obtain ⟨x, hx, e⟩ := Option.map_eq_some_iff.1 hz
  exact ⟨x, hx, e.symm⟩
theorem Pk.at {L : List Ins} {k i : Nat} {x : Ins} (h : Pk L k) (hx : L[up k i]? = some x) : (rmv L k)[i]? = some (rtI x (shft (tgt x) k)) := by rw [rmv_at L k i h.lt, hx]; rfl
/-- the target's place is kept -/
theorem Pk.tup {L : List Ins} {k q : Nat} {y : Ins} (h : Pk L k) (hy : L[q]? = some y) (ht : tb y.k = true) : ∃ i, q = up k i := by
  refine up_of (fun e => ?_) (fun e => ?_)
  · subst e; rw [h.n0 y hy] at ht; cases ht
  · subst e; rw [h.n1 y hy] at ht; cases ht
theorem Pk.vl {L : List Ins} {k i : Nat} {x : Ins} (h : Pk L k) (hx : L[up k i]? = some x) : vld (rtI x (shft (tgt x) k)) = true := by
  unfold vld rtI
  refine valid_re _ _ _ _ _ _ (h.wd.vl _ x hx) fun hb => ?_
  obtain ⟨j, y, e, hy, ht⟩ := h.wd.tgt_tb hx hb
  obtain ⟨j', rfl⟩ := h.tup hy ht
  rw [e, shft_up]
  have h1 := lt_len hy
  have h2 := h.len
  have h3 : j' ≤ up k j' := by unfold up; split <;> omega
  omega
theorem Pk.pr_up {L : List Ins} {k i j : Nat} (h : Pk L k) (hp : PR L (up k i) (up k j)) : PR (rmv L k) i j := by
  obtain ⟨x, y, h1, h2, h3, h4, h5, h6, h7, h8, h9, h10⟩ := hp
  have hyr : rol y.k ≠ 0 := by rw [h8]; exact (opp_opp _ (rol_ne h7)).2
  refine ⟨_, _, h.at h1, h.at h2, h.vl h1, h.vl h2, ?_, ?_, h7, h8, fun e => up_lt.1 (h9 e), fun e => up_lt.1 (h10 e)⟩
  · rw [rtI_tgt _ _ (tb_rol h7), h5, shft_up]
  · rw [rtI_tgt _ _ (tb_rol hyr), h6, shft_up]
theorem Pk.pr_dn {L : List Ins} {k i j : Nat} (h : Pk L k) (hp : PR (rmv L k) i j) : PR L (up k i) (up k j) := by
  obtain ⟨z, hz⟩ : ∃ z, (rmv L k)[i]? = some z := ⟨_, List.getElem?_eq_getElem hp.lt.1⟩
  have hr := pr_role hp hz
  obtain ⟨x, hx, rfl⟩ := rmv_back h.lt hz
  obtain ⟨q, hq⟩ := h.wd.pair _ x hx hr
  obtain ⟨y, hy⟩ : ∃ y, L[q]? = some y := ⟨_, List.getElem?_eq_getElem hq.lt.2⟩
  obtain ⟨j', rfl⟩ := h.tup hy (tb_rol (pr_role hq.symm hy))
  have := hp.fun (h.pr_up hq)
  subst this
  exact hq
theorem Pk.st_up {L : List Ins} {k s e : Nat} (h : Pk L k) (hs : St L (up k s) (up k e)) : St (rmv L k) s e := by
  refine ⟨h.pr_up hs.1, ?_⟩
  rw [rmv_at L k s h.lt]
  have := hs.2
  cases hx : L[up k s]? with
  | none => rw [hx] at this; cases this
  | some x => rw [hx] at this; exact this
theorem Pk.st_dn {L : List Ins} {k s e : Nat} (h : Pk L k) (hs : St (rmv L k) s e) : St L (up k s) (up k e) := by
  refine ⟨h.pr_dn hs.1, ?_⟩
  have := hs.2
  rw [rmv_at L k s h.lt] at this
  cases hx : L[up k s]? with
  | none => rw [hx] at this; cases this
  | some x => rw [hx] at this; exact this
theorem Pk.wd_rmv {L : List Ins} {k : Nat} (h : Pk L k) : Wd (rmv L k) := by
  refine ⟨fun i z hz => ?_, fun i z hz hk => ?_, fun i z hz hr => ?_, fun s e s' e' hs hs' hlt => ?_, fun i j z hz hr hp s e hs => ?_⟩
  · obtain ⟨x, hx, rfl⟩ := rmv_back h.lt hz
    exact h.vl hx
  · obtain ⟨x, hx, rfl⟩ := rmv_back h.lt hz
    have hk' : x.k = 30 ∨ x.k = 31 := hk
    obtain ⟨p, e, h1, h2⟩ := h.wd.call _ x hx hk'
    obtain ⟨y, hy⟩ : ∃ y, L[p]? = some y := ⟨_, List.getElem?_eq_getElem h2.1.lt.1⟩
    obtain ⟨p', rfl⟩ := h.tup hy (tb_rol (pr_role h2.1 hy))
    obtain ⟨y', hy'⟩ : ∃ y, L[e]? = some y := ⟨_, List.getElem?_eq_getElem h2.1.lt.2⟩
    obtain ⟨e', rfl⟩ := h.tup hy' (tb_rol (pr_role h2.1.symm hy'))
    refine ⟨p', e', ?_, h.st_up h2⟩
    have e1 : tgt x = x.a := by unfold tgt; rcases hk' with hk | hk <;> rw [hk] <;> rfl
    have e2 : ∀ v, rta x.k x.a v = v := fun v => by rcases hk' with hk | hk <;> rw [hk] <;> rfl
    show rta x.k x.a (shft (tgt x) k) = _
    rw [e2, e1, h1, shft_up]
  · obtain ⟨x, hx, rfl⟩ := rmv_back h.lt hz
    obtain ⟨q, hq⟩ := h.wd.pair _ x hx hr
    obtain ⟨y, hy⟩ : ∃ y, L[q]? = some y := ⟨_, List.getElem?_eq_getElem hq.lt.2⟩
    obtain ⟨j', rfl⟩ := h.tup hy (tb_rol (pr_role hq.symm hy))
    exact ⟨j', h.pr_up hq⟩
  · exact up_lt.1 (h.wd.disj _ _ _ _ (h.st_dn hs) (h.st_dn hs') (up_lt.2 hlt))
  · obtain ⟨x, hx, rfl⟩ := rmv_back h.lt hz
    have := h.wd.jumps _ _ x hx hr (h.pr_dn hp) _ _ (h.st_dn hs)
    simpa only [up_le] using this
theorem rmv_wf {L : List Ins} (h : WF L) (k : Nat) : WF (rmv L k) := fun z hz => by
  unfold rmv at hz
  obtain ⟨x, hx, rfl⟩ := List.mem_map.1 hz
  refine h x ?_
  rcases List.mem_append.1 hx with h1 | h1
  · exact List.mem_of_mem_take h1
  · exact List.mem_of_mem_drop h1
section
variable {α : Type} {c : α → α → Bool}
theorem cut_pred (P : List α → Prop) (hP : ∀ (u v : List α) (a b : α), c a b = true → P (u ++ a :: b :: v) → P (u ++ v)) (w st : List α) (h : P (st.reverse ++ w)) : P (w.foldl (psh c) st).reverse := by
  induction w generalizing st with
  | nil => simpa using h
  | cons a w ih =>
    rw [List.foldl_cons]
    cases st with
    | nil => exact ih [a] h
    | cons t r =>
      by_cases ht : c t a = true
      · have e : psh c (t :: r) a = r := by simp [psh, ht]
        rw [e]
        refine ih r (hP _ _ t a ht ?_)
        simpa using h
      · have e : psh c (t :: r) a = a :: t :: r := by simp [psh, ht]
        rw [e]
        refine ih (a :: t :: r) ?_
        simpa using h
theorem pred_red (P : List α → Prop) (hP : ∀ (u v : List α) (a b : α), c a b = true → P (u ++ a :: b :: v) → P (u ++ v)) (w : List α) (h : P w) : P (red c w) := cut_pred P hP w [] h
end
/-- one cut of the word is one pair out of the code -/
theorem cut_pk {u v : List (Ins × Int)} {a b : Ins × Int} (h : Cw (u ++ a :: b :: v)) (hab : lc a b = true) (hw : Wd (outp (u ++ a :: b :: v))) (hl : (u ++ a :: b :: v).length ≤ 65536) : Pk (outp (u ++ a :: b :: v)) u.length := by
  have ha : (u ++ a :: b :: v)[u.length]? = some a := by simp
  have hb : (u ++ a :: b :: v)[u.length + 1]? = some b := by rw [List.getElem?_append_right (by omega)]; simp
  exact Pk.of hw (by rw [outp_len]; exact hl) (outp_at ha) (outp_at hb) ((outp_can h ha hb).trans hab)
theorem red_all {l : List Ins} (h : Wd l) (hf : WF l) (hl : l.length ≤ 65536) : Cw (red lc (lw l)) ∧ Wd (opt l) ∧ WF (opt l) ∧ (red lc (lw l)).length ≤ l.length := by
  refine pred_red (c := lc) (fun w => Cw w ∧ Wd (outp w) ∧ WF (outp w) ∧ w.length ≤ l.length) (fun u v a b hab ⟨h1, h2, h3, h4⟩ => ?_) (lw l) ⟨lw_cw h, by rw [outp_lw h]; exact h, by rw [outp_lw h]; exact hf, by rw [lw_len]; exact Nat.le_refl _⟩
  have hp := cut_pk h1 hab h2 (by omega)
  refine ⟨h1.cut hab, ?_, ?_, ?_⟩
  · rw [outp_cut h1 hab]; exact hp.wd_rmv
  · rw [outp_cut h1 hab]; exact rmv_wf h3 _
  · simp only [List.length_append, List.length_cons] at h4 ⊢; omega
/-- no neighbours of what is left cancel -/
theorem opt_nc {l : List Ins} (h : Wd l) (hf : WF l) (hl : l.length ≤ 65536) {i : Nat} {x y : Ins} (hx : (opt l)[i]? = some x) (hy : (opt l)[i + 1]? = some y) : can x y = false := by
  have hc := (red_all h hf hl).1
  have h1 := lt_len hy
  unfold opt at hx hy h1
  rw [outp_len] at h1
  obtain ⟨p, hp⟩ : ∃ p, (red lc (lw l))[i]? = some p := ⟨_, List.getElem?_eq_getElem (by omega)⟩
  obtain ⟨q, hq⟩ : ∃ q, (red lc (lw l))[i + 1]? = some q := ⟨_, List.getElem?_eq_getElem h1⟩
  rw [outp_at hp] at hx
  rw [outp_at hq] at hy
  cases hx; cases hy
  rw [outp_can hc hp hq]
  exact nw_red (c := lc) (lw l) i p q hp hq
/-- what has no pair stays as it is -/
theorem opt_id {l : List Ins} (h : Wd l) (hn : ∀ (i : Nat) (x y : Ins), l[i]? = some x → l[i + 1]? = some y → can x y = false) : opt l = l := by
  have e : red lc (lw l) = lw l := red_nw fun i p q hp hq => by
    have hc := lw_cw h
    have h1 := outp_at hp
    have h2 := outp_at hq
    rw [outp_lw h] at h1 h2
    rw [← outp_can hc hp hq]
    exact hn i _ _ h1 h2
  unfold opt
  rw [e, outp_lw h]
theorem opt_opt {l : List Ins} (h : Wd l) (hf : WF l) (hl : l.length ≤ 65536) : opt (opt l) = opt l := opt_id (red_all h hf hl).2.1 fun i x y hx hy => opt_nc h hf hl hx hy
end Go.Proofs.YtkfmhmkeikhdbaaDoor
