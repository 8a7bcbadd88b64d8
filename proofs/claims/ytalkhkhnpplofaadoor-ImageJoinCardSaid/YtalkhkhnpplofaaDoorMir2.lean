/- The mirrored image, for the law. -/
import Derived.Test.YtalkhkhnpplofaaDoorRows
import Derived.WalkKit
import Derived.ProofKit
import Derived.OpenShut
import Derived.Below
import Derived.Lib.Hide
import Derived.Outline
import Derived.WalkLawsBesides
import Derived.WalkSpells
import Derived.WalkSmall
import Derived.IntWalk
import Derived.Deep.QuietTactic
import Derived.BigQuiet
import Derived.Deep.RegionHeld3
import Derived.StillTailTactics
import Derived.Handy
import Derived.Deep.Cut
import Derived.Deep.OwnRows
import Derived.Deep.RegionWith
import Derived.Test.YtalkhkhnpplofaaDoorMir
import Derived.Test.YtalkhkhnpplofaaDoorCov
namespace Go.Proofs.YtalkhkhnpplofaaDoor
open Go.ChangeShapes Go.WideShapes Go.ChangeAt Go.RowKit
set_option linter.unusedSimpArgs false
set_option linter.unusedVariables false

theorem invL_wf {l : List Ins} (h : WF l) : WF (invL l) := fun y hy => by
  obtain ⟨x, hx, rfl⟩ := List.mem_map.1 (List.mem_reverse.1 hy)
  exact inv_range _ (h x hx)
theorem mir_yes {l : List Ins} {x : Ins} (ht : tb x.k = true) : Ins.mk (invO x.k) (rta (invO x.k) x.a (tv (invI l x).k (invI l x).a (invI l x).b)) (rtb (invO x.k) x.b (tv (invI l x).k (invI l x).a (invI l x).b)) x.c x.d = invI l x := by
  have e : tv (invI l x).k (invI l x).a (invI l x).b = (l.length : Int) - 1 - invT l x := by
    show tv (invO x.k) _ _ = _
    rw [inv_tv]
    exact tv_re _ _ _ _ ht
  rw [e, rta_inv, rtb_inv]
  rfl
theorem mir_no {l : List Ins} {x : Ins} (ht : tb x.k = false) : Ins.mk (invO x.k) x.a x.b x.c x.d = invI l x := by
  unfold invI; rw [rta_no ht, rtb_no ht]
/-- starts become ends: there are as many procedures -/
theorem len_le_of_inj {α β : Type} [DecidableEq β] (f : α → β) (l : List α) (m : List β) (hl : l.Nodup) (hf : ∀ a ∈ l, f a ∈ m) (hi : ∀ a ∈ l, ∀ b ∈ l, f a = f b → a = b) : l.length ≤ m.length := by
  induction l generalizing m with
  | nil => exact Nat.zero_le _
  | cons a l ih =>
    have ha := hf a (by simp)
    have h2 := ih (m.erase (f a)) (List.nodup_cons.1 hl).2 (fun b hb => by
      refine (List.mem_erase_of_ne ?_).2 (hf b (by simp [hb]))
      intro e
      have := hi b (by simp [hb]) a (by simp) e
      subst this
      exact (List.nodup_cons.1 hl).1 hb) (fun b hb c hc e => hi b (by simp [hb]) c (by simp [hc]) e)
    rw [List.length_erase_of_mem ha] at h2
    have : 0 < m.length := List.length_pos_of_mem ha
    simp only [List.length_cons]
    omega
theorem pcs_in {l : List Ins} {n s : Nat} (hn : l.length = n) (hk : (l[s]?).map (·.k) = some 32) : s ∈ pcs l n := by
  unfold pcs
  rw [List.mem_filter]
  refine ⟨List.mem_range.2 ?_, by simp [hk]⟩
  rcases Nat.lt_or_ge s n with h | h
  · exact h
  · rw [List.getElem?_eq_none (by omega)] at hk; cases hk
theorem pcs_nodup (l : List Ins) (n : Nat) : (pcs l n).Nodup := (pcs_sorted l n).imp fun h => Nat.ne_of_lt h
/-- the end of the procedure that starts at s -/
def endOf (l : List Ins) (s : Nat) : Nat := (rp l s).toNat
theorem endOf_st {l : List Ins} {s e : Nat} (h : St l s e) : endOf l s = e := by unfold endOf; rw [rp_some h.1]; rfl
theorem Wd.procs_le {l : List Ins} (h : Wd l) (hn : l.length ≤ 65536) : (pcs l l.length).length ≤ (pcs (invL l) l.length).length := by
  refine len_le_of_inj (fun s => l.length - 1 - endOf l s) _ _ (pcs_nodup _ _) (fun s hs => ?_) (fun s hs t ht e => ?_)
  · obtain ⟨e, he⟩ := h.start (pcs_mem hs).2
    show l.length - 1 - endOf l s ∈ _
    rw [endOf_st he]
    exact pcs_in (invL_len l) (h.st hn he).2
  · obtain ⟨e1, h1⟩ := h.start (pcs_mem hs).2
    obtain ⟨e2, h2⟩ := h.start (pcs_mem ht).2
    simp only [endOf_st h1, endOf_st h2] at e
    have l1 := h1.lt
    have l2 := h2.lt
    obtain rfl : e1 = e2 := by omega
    exact h1.1.symm.fun h2.1.symm
theorem Wd.procs {l : List Ins} (h : Wd l) (hn : l.length ≤ 65536) : (pcs (invL l) l.length).length = (pcs l l.length).length := by
  have h1 := h.procs_le hn
  have h2 := (h.inv hn).procs_le (by rw [invL_len]; exact hn)
  rw [h.twice hn, invL_len] at h2
  omega
theorem Wd.part_none {l : List Ins} (h : Wd l) (hn : l.length ≤ 65536) {i : Nat} (hi : i < l.length) (hp : part l i = none) : part (invL l) ((l.length - 1 - i : Nat) : Int) = none := by
  cases hq : part (invL l) ((l.length - 1 - i : Nat) : Int) with
  | none => rfl
  | some t =>
    obtain ⟨j, rfl, hj⟩ := (part_iff _ _ _).1 hq
    have := h.rp hn hj
    rw [show l.length - 1 - (l.length - 1 - i) = i by omega] at this
    rw [(part_iff l i _).2 ⟨_, rfl, this⟩] at hp
    cases hp
theorem Wd.part_some {l : List Ins} (h : Wd l) (hn : l.length ≤ 65536) {i j : Nat} (hp : PR l i j) : part (invL l) ((l.length - 1 - i : Nat) : Int) = some ((l.length - 1 - j : Nat) : Int) :=
  (part_iff _ _ _).2 ⟨_, rfl, h.pr hn hp⟩
end Go.Proofs.YtalkhkhnpplofaaDoor
