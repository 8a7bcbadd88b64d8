/- Regions: the stack's top is the greatest open start. -/
import Derived.Test.YtalkhkhnpplofaaDoorRows
import Derived.WalkKit
import Derived.ProofKit
import Derived.OpenShut
import Derived.Below
import Derived.Lib.Hide
import Derived.Outline
import Derived.WalkLawsBesides
import Derived.WalkSpells
import Derived.WalkSmall
import Derived.IntWalk
import Derived.Deep.QuietTactic
import Derived.BigQuiet
import Derived.Deep.RegionHeld3
import Derived.StillTailTactics
import Derived.Handy
import Derived.Deep.Cut
import Derived.Deep.OwnRows
import Derived.Deep.RegionWith
import Derived.Test.YtalkhkhnpplofaaDoorCheck
namespace Go.Proofs.YtalkhkhnpplofaaDoor
open Go.ChangeShapes Go.WideShapes Go.ChangeAt Go.RowKit
set_option linter.unusedSimpArgs false
set_option linter.unusedVariables false

/-- the start s has a partner that does not end ahead of i -/
def opn (l : List Ins) (i s : Nat) : Bool := isSt l s && !decide ((part l s).getD 0 < (i : Int))
/-- the greatest s below k with p s, or -1 -/
def gst (p : Nat → Bool) : Nat → Int
  | 0 => -1
  | k + 1 => if p k = true then (k : Int) else gst p k
theorem gst_none {p : Nat → Bool} {k : Nat} (h : ∀ s, s < k → p s = false) : gst p k = -1 := by
  induction k with
  | zero => rfl
  | succ k ih =>
    show (if p k = true then (k : Int) else gst p k) = -1
    rw [if_neg (by rw [h k (by omega)]; decide)]
    exact ih fun s hs => h s (by omega)
theorem gst_some {p : Nat → Bool} {k t : Nat} (ht : t < k) (hp : p t = true) (h : ∀ s, t < s → s < k → p s = false) : gst p k = t := by
  induction k with
  | zero => omega
  | succ k ih =>
    show (if p k = true then (k : Int) else gst p k) = t
    by_cases hk : t = k
    · subst hk; rw [if_pos hp]
    · rw [if_neg (by rw [h k (by omega) (by omega)]; decide)]
      exact ih (by omega) fun s h1 h2 => h s h1 (by omega)
theorem gst_congr {p q : Nat → Bool} {k : Nat} (h : ∀ s, s < k → p s = q s) : gst p k = gst q k := by
  induction k with
  | zero => rfl
  | succ k ih =>
    show (if p k = true then (k : Int) else gst p k) = (if q k = true then (k : Int) else gst q k)
    rw [h k (by omega), ih fun s hs => h s (by omega)]
theorem gst_range (p : Nat → Bool) (k : Nat) : -1 ≤ gst p k ∧ gst p k < k := by
  induction k with
  | zero => exact ⟨Int.le_refl _, by show (-1 : Int) < ((0 : Nat) : Int); omega⟩
  | succ k ih =>
    show -1 ≤ (if p k = true then (k : Int) else gst p k) ∧ (if p k = true then (k : Int) else gst p k) < _
    split <;> omega
/-- either nothing holds, or gst is the greatest -/
theorem gst_cases (p : Nat → Bool) (k : Nat) : (gst p k = -1 ∧ ∀ s, s < k → p s = false) ∨ ∃ t : Nat, gst p k = t ∧ t < k ∧ p t = true ∧ ∀ s, t < s → s < k → p s = false := by
  induction k with
  | zero => exact .inl ⟨rfl, fun s h => by omega⟩
  | succ k ih =>
    cases hp : p k
    · have e : gst p (k + 1) = gst p k := by show (if p k = true then (k : Int) else gst p k) = _; rw [hp]; rfl
      rw [e]
      rcases ih with ⟨h1, h2⟩ | ⟨t, h1, h2, h3, h4⟩
      · refine .inl ⟨h1, fun s hs => ?_⟩
        by_cases e : s = k
        · subst e; exact hp
        · exact h2 s (by omega)
      · refine .inr ⟨t, h1, by omega, h3, fun s h5 h6 => ?_⟩
        by_cases e : s = k
        · subst e; exact hp
        · exact h4 s h5 (by omega)
    · exact .inr ⟨k, by show (if p k = true then (k : Int) else gst p k) = _; rw [hp]; rfl, by omega, hp, fun s h1 h2 => by omega⟩
structure StI (l : List Ins) (i k : Nat) (st : List Nat) : Prop where
  srt : st.Pairwise (fun a b => b < a)
  mem : ∀ s ∈ st, s < k ∧ isSt l s = true
  all : ∀ s, s < k → opn l i s = true → s ∈ st
theorem mem_drop {p : Nat → Bool} {st : List Nat} {s : Nat} (h : s ∈ st) (hp : p s = false) : s ∈ st.dropWhile p := by
  induction st with
  | nil => cases h
  | cons a st ih =>
    rw [List.dropWhile_cons]
    cases ha : p a
    · exact h
    · rw [if_pos rfl]
      rcases List.mem_cons.1 h with e | e
      · subst e; rw [hp] at ha; cases ha
      · exact ih e
theorem StI.popd {l : List Ins} {i k : Nat} {st : List Nat} (h : StI l i k st) : StI l i k (pop l i st) := by
  have hs : pop l i st <:+ st := List.dropWhile_suffix _
  refine ⟨h.srt.sublist hs.sublist, fun s hm => h.mem s (hs.subset hm), fun s hk ho => mem_drop (h.all s hk ho) ?_⟩
  unfold opn at ho
  simp only [Bool.and_eq_true, Bool.not_eq_true'] at ho
  exact ho.2
theorem head_drop {p : Nat → Bool} {st : List Nat} {t : Nat} {r : List Nat} (h : st.dropWhile p = t :: r) : p t = false := by
  induction st with
  | nil => cases h
  | cons a st ih =>
    rw [List.dropWhile_cons] at h
    cases ha : p a
    · rw [ha, if_neg (by decide)] at h; cases h; exact ha
    · rw [ha, if_pos rfl] at h; exact ih h
theorem StI.topd {l : List Ins} {i k : Nat} {st : List Nat} (h : StI l i k st) : top (pop l i st) = gst (opn l i) k := by
  have hp := h.popd
  cases hq : pop l i st with
  | nil =>
    rw [hq] at hp
    symm
    refine gst_none fun s hs => ?_
    cases ho : opn l i s
    · rfl
    · exact absurd (hp.all s hs ho) (by simp)
  | cons t r =>
    have hd := head_drop hq
    rw [hq] at hp
    have ht := hp.mem t (by simp)
    symm
    refine gst_some ht.1 (by unfold opn; rw [ht.2, hd]; rfl) fun s h1 h2 => ?_
    cases ho : opn l i s
    · rfl
    · rcases List.mem_cons.1 (hp.all s h2 ho) with e | e
      · omega
      · have := List.rel_of_pairwise_cons hp.srt e; omega
theorem StI.pushd {l : List Ins} {i : Nat} {st : List Nat} (h : StI l i i st) : StI l i (i + 1) (push l i st) := by
  unfold push
  cases hs : isSt l i
  · rw [if_neg (by decide)]
    refine ⟨h.srt, fun s hm => ⟨by have := (h.mem s hm).1; omega, (h.mem s hm).2⟩, fun s hk ho => ?_⟩
    by_cases e : s = i
    · subst e; unfold opn at ho; rw [hs] at ho; cases ho
    · exact h.all s (by omega) ho
  · rw [if_pos rfl]
    refine ⟨List.pairwise_cons.2 ⟨fun s hm => (h.mem s hm).1, h.srt⟩, fun s hm => ?_, fun s hk ho => ?_⟩
    · rcases List.mem_cons.1 hm with e | e
      · subst e; exact ⟨by omega, hs⟩
      · exact ⟨by have := (h.mem s e).1; omega, (h.mem s e).2⟩
    · by_cases e : s = i
      · subst e; simp
      · exact List.mem_cons_of_mem _ (h.all s (by omega) ho)
theorem opn_mono {l : List Ins} {i s : Nat} (h : opn l (i + 1) s = true) : opn l i s = true := by
  unfold opn at *
  simp only [Bool.and_eq_true, Bool.not_eq_true', decide_eq_false_iff_not] at *
  exact ⟨h.1, by omega⟩
theorem stk_inv (l : List Ins) (i : Nat) : StI l i i (stk l i) := by
  induction i with
  | zero => exact ⟨List.Pairwise.nil, fun s h => absurd h (by simp [stk]), fun s h => by omega⟩
  | succ i ih =>
    have h := ih.popd.pushd.popd
    exact ⟨h.srt, h.mem, fun s hk ho => h.all s hk (opn_mono ho)⟩
theorem regO_1 (l : List Ins) (i : Nat) : (regO l i).1 = gst (opn l i) (i + 1) := (stk_inv l i).popd.pushd.topd
theorem regO_2 (l : List Ins) (i : Nat) : (regO l i).2 = gst (opn l i) i := (stk_inv l i).topd
/-- what the reference's region asks of s -/
def rop (l : List Ins) (i : Nat) (skip : Int) (s : Nat) : Bool := decide ((s : Int) ≠ skip) && ((l[s]?).map (·.k) == some 32 && decide ((i : Int) ≤ rp l s))
def rgn (l : List Ins) (i : Nat) (skip : Int) : Int := gst (rop l i skip) (i + 1)
theorem rop_opn (l : List Ins) (i s : Nat) : ((l[s]?).map (·.k) == some 32 && decide ((i : Int) ≤ rp l s)) = opn l i s := by
  unfold opn isSt rp
  cases hp : part l s with
  | none =>
    have : decide ((i : Int) ≤ (none : Option Int).getD (-1)) = false := by simp; omega
    rw [this]; simp
  | some t =>
    simp only [Option.getD_some, Option.isSome_some, Bool.true_and]
    congr 1
    rw [Bool.eq_iff_iff]; simp
theorem rgn_own (l : List Ins) (i : Nat) : rgn l i (-1) = gst (opn l i) (i + 1) := gst_congr fun s _ => by
  unfold rop
  rw [rop_opn]
  have : decide ((s : Int) ≠ -1) = true := decide_eq_true (by omega)
  rw [this, Bool.true_and]
theorem rgn_outer (l : List Ins) (i : Nat) : rgn l i (i : Int) = gst (opn l i) i := by
  have e : rop l i (i : Int) i = false := by unfold rop; simp
  show (if rop l i (i : Int) i = true then (i : Int) else gst (rop l i (i : Int)) i) = _
  rw [e, if_neg (by decide)]
  exact gst_congr fun s hs => by
    unfold rop
    rw [rop_opn]
    have : decide ((s : Int) ≠ (i : Int)) = true := decide_eq_true (by omega)
    rw [this, Bool.true_and]
theorem own_regs {l : List Ins} {i : Nat} (h : i < l.length) : own (regs l) (i : Int) = rgn l i (-1) := by
  unfold own regs
  rw [Int.toNat_natCast, List.getD_eq_getElem?_getD, List.getElem?_map, List.getElem?_range h]
  show (regO l i).1 = _
  rw [regO_1, rgn_own]
theorem outer_regs {l : List Ins} {i : Nat} (h : i < l.length) : outer (regs l) (i : Int) = rgn l i i := by
  unfold outer regs
  rw [Int.toNat_natCast, List.getD_eq_getElem?_getD, List.getElem?_map, List.getElem?_range h]
  show (regO l i).2 = _
  rw [regO_2, rgn_outer]
/-- the fault of an instruction in terms of the regions of the reference -/
theorem flt_eq {l : List Ins} {i : Nat} {x : Ins} (hx : l[i]? = some x) : flt l (regs l) i =
    if vld x = false then 3
    else if rol x.k = 0 then (if x.k = 30 ∨ x.k = 31 then cfl l x.a else 0)
    else match part l i with
      | none => 23
      | some t => if rol x.k = 3 then (if 0 ≤ rgn l i i then 20 else 0)
        else if rol x.k = 1 ∨ rol x.k = 2 then (if rgn l i (-1) ≠ rgn l t.toNat (-1) then 20 else 0) else 0 := by
  unfold flt
  rw [hx]
  simp only
  split
  · rfl
  · split
    · rfl
    · cases hp : part l i with
      | none => rfl
      | some t =>
        obtain ⟨j, rfl, hj⟩ := (part_iff l i t).1 hp
        simp only
        rw [own_regs (lt_len hx), own_regs hj.lt.2, outer_regs (lt_len hx), Int.toNat_natCast]
end Go.Proofs.YtalkhkhnpplofaaDoor
