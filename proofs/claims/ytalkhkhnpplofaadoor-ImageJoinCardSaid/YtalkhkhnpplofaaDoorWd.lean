/- Images without faults, in plain words. -/
import Derived.Test.YtalkhkhnpplofaaDoorRows
import Derived.WalkKit
import Derived.ProofKit
import Derived.OpenShut
import Derived.Below
import Derived.Lib.Hide
import Derived.Outline
import Derived.WalkLawsBesides
import Derived.WalkSpells
import Derived.WalkSmall
import Derived.IntWalk
import Derived.Deep.QuietTactic
import Derived.BigQuiet
import Derived.Deep.RegionHeld3
import Derived.StillTailTactics
import Derived.Handy
import Derived.Deep.Cut
import Derived.Deep.OwnRows
import Derived.Deep.RegionWith
import Derived.Test.YtalkhkhnpplofaaDoorInv0
import Derived.Test.YtalkhkhnpplofaaDoorRgn
import Derived.Test.YtalkhkhnpplofaaDoorRead
import Derived.Test.YtalkhkhnpplofaaDoorInv
namespace Go.Proofs.YtalkhkhnpplofaaDoor
open Go.ChangeShapes Go.WideShapes Go.ChangeAt Go.RowKit
set_option linter.unusedSimpArgs false
set_option linter.unusedVariables false

/-- a procedure from s to e -/
def St (l : List Ins) (s e : Nat) : Prop := PR l s e ∧ (l[s]?).map (·.k) = some 32
theorem St.lt {l : List Ins} {s e : Nat} (h : St l s e) : s < e ∧ e < l.length := by
  obtain ⟨hp, hk⟩ := h
  have h2 := hp.lt
  obtain ⟨x, y, h1, _, _, _, _, _, _, _, h9, _⟩ := hp
  rw [h1] at hk
  exact ⟨h9 ((rol3 _).2 (by simpa using hk)), h2.2⟩
theorem St.fun {l : List Ins} {s e e' : Nat} (h : St l s e) (h' : St l s e') : e = e' := h.1.fun h'.1
/-- an image without faults -/
structure Wd (l : List Ins) : Prop where
  vl : ∀ (i : Nat) (x : Ins), l[i]? = some x → vld x = true
  call : ∀ (i : Nat) (x : Ins), l[i]? = some x → (x.k = 30 ∨ x.k = 31) → ∃ p e : Nat, x.a = p ∧ St l p e
  pair : ∀ (i : Nat) (x : Ins), l[i]? = some x → rol x.k ≠ 0 → ∃ j, PR l i j
  disj : ∀ s e s' e' : Nat, St l s e → St l s' e' → s < s' → e < s'
  jumps : ∀ (i j : Nat) (x : Ins), l[i]? = some x → (rol x.k = 1 ∨ rol x.k = 2) → PR l i j → ∀ s e, St l s e → (s ≤ i ∧ i ≤ e ↔ s ≤ j ∧ j ≤ e)
theorem opn_iff {l : List Ins} {i s : Nat} : opn l i s = true ↔ ∃ e, St l s e ∧ i ≤ e := by
  unfold opn isSt
  constructor
  · intro h
    simp only [Bool.and_eq_true, Bool.not_eq_true', decide_eq_false_iff_not] at h
    obtain ⟨⟨h1, h2⟩, h3⟩ := h
    cases hp : part l s with
    | none => rw [hp] at h1; cases h1
    | some t =>
      obtain ⟨e, rfl, he⟩ := (part_iff l s t).1 hp
      rw [hp] at h3
      simp only [Option.getD_some] at h3
      exact ⟨e, ⟨he, by simpa using h2⟩, by omega⟩
  · rintro ⟨e, ⟨h1, h2⟩, h3⟩
    have hp := (part_iff l s (e : Int)).2 ⟨e, rfl, h1⟩
    rw [hp, h2]
    simp
    omega
theorem rgn_cases (l : List Ins) (i : Nat) : (rgn l i (-1) = -1 ∧ ∀ s e, St l s e → s ≤ i → i ≤ e → False) ∨ ∃ s e : Nat, rgn l i (-1) = s ∧ St l s e ∧ s ≤ i ∧ i ≤ e := by
  rw [rgn_own]
  rcases gst_cases (opn l i) (i + 1) with ⟨h1, h2⟩ | ⟨t, h1, h2, h3, h4⟩
  · refine .inl ⟨h1, fun s e hs h5 h6 => ?_⟩
    have := h2 s (by omega)
    rw [opn_iff.2 ⟨e, hs, h6⟩] at this
    cases this
  · obtain ⟨e, he, h5⟩ := opn_iff.1 h3
    exact .inr ⟨t, e, h1, he, by omega, h5⟩
theorem rgn_out {l : List Ins} {i : Nat} : 0 ≤ rgn l i i ↔ ∃ s e, St l s e ∧ s < i ∧ i ≤ e := by
  rw [rgn_outer]
  rcases gst_cases (opn l i) i with ⟨h1, h2⟩ | ⟨t, h1, h2, h3, h4⟩
  · rw [h1]
    constructor
    · intro h; omega
    · rintro ⟨s, e, hs, h5, h6⟩
      have := h2 s h5
      rw [opn_iff.2 ⟨e, hs, h6⟩] at this
      cases this
  · rw [h1]
    obtain ⟨e, he, h5⟩ := opn_iff.1 h3
    exact ⟨fun _ => ⟨t, e, he, h2, h5⟩, fun _ => by omega⟩
theorem cfl_iff {l : List Ins} {t : Int} : cfl l t = 0 ↔ ∃ p e : Nat, t = p ∧ St l p e := by
  unfold cfl
  constructor
  · intro h
    split at h
    · rename_i hc
      obtain ⟨h1, h2⟩ := hc
      have h3 := part_in h1
      obtain ⟨p, rfl⟩ : ∃ p : Nat, t = p := ⟨t.toNat, by omega⟩
      cases hp : part l p with
      | none => rw [hp] at h1; cases h1
      | some u =>
        obtain ⟨e, rfl, he⟩ := (part_iff l p u).1 hp
        exact ⟨p, e, rfl, he, by rw [Int.toNat_natCast] at h2; exact h2⟩
    · omega
  · rintro ⟨p, e, rfl, h1, h2⟩
    rw [if_pos ⟨by rw [(part_iff l p (e : Int)).2 ⟨e, rfl, h1⟩]; rfl, by rw [Int.toNat_natCast]; exact h2⟩]
/-- two instructions in the same procedure -/
theorem same_rgn {l : List Ins} (hd : ∀ s e s' e' : Nat, St l s e → St l s' e' → s < s' → e < s') (i j : Nat) : rgn l i (-1) = rgn l j (-1) ↔ ∀ s e, St l s e → (s ≤ i ∧ i ≤ e ↔ s ≤ j ∧ j ≤ e) := by
  have uniq : ∀ {s e s' e' q : Nat}, St l s e → St l s' e' → s ≤ q → q ≤ e → s' ≤ q → q ≤ e' → s = s' := fun {s e s' e' q} h h' h1 h2 h3 h4 => by
    rcases Nat.lt_trichotomy s s' with h5 | h5 | h5
    · have := hd _ _ _ _ h h' h5; omega
    · exact h5
    · have := hd _ _ _ _ h' h h5; omega
  constructor
  · intro h s e hs
    rcases rgn_cases l i with ⟨a1, a2⟩ | ⟨s1, e1, a1, a2, a3, a4⟩
    · rcases rgn_cases l j with ⟨b1, b2⟩ | ⟨s2, e2, b1, b2, b3, b4⟩
      · exact ⟨fun q => absurd (a2 s e hs q.1 q.2) (fun f => f), fun q => absurd (b2 s e hs q.1 q.2) (fun f => f)⟩
      · omega
    · rcases rgn_cases l j with ⟨b1, b2⟩ | ⟨s2, e2, b1, b2, b3, b4⟩
      · omega
      · obtain rfl : s1 = s2 := by omega
        obtain rfl := a2.fun b2
        constructor
        · rintro ⟨q1, q2⟩
          obtain rfl := uniq hs a2 q1 q2 a3 a4
          obtain rfl := hs.fun a2
          exact ⟨b3, b4⟩
        · rintro ⟨q1, q2⟩
          obtain rfl := uniq hs a2 q1 q2 b3 b4
          obtain rfl := hs.fun a2
          exact ⟨a3, a4⟩
  · intro h
    rcases rgn_cases l i with ⟨a1, a2⟩ | ⟨s1, e1, a1, a2, a3, a4⟩
    · rcases rgn_cases l j with ⟨b1, b2⟩ | ⟨s2, e2, b1, b2, b3, b4⟩
      · rw [a1, b1]
      · have := (h s2 e2 b2).2 ⟨b3, b4⟩
        exact absurd (a2 s2 e2 b2 this.1 this.2) (fun f => f)
    · rcases rgn_cases l j with ⟨b1, b2⟩ | ⟨s2, e2, b1, b2, b3, b4⟩
      · have := (h s1 e1 a2).1 ⟨a3, a4⟩
        exact absurd (b2 s1 e1 a2 this.1 this.2) (fun f => f)
      · have := (h s1 e1 a2).1 ⟨a3, a4⟩
        obtain rfl := uniq a2 b2 this.1 this.2 b3 b4
        rw [a1, b1]
theorem pr_role {l : List Ins} {i j : Nat} {x : Ins} (h : PR l i j) (hx : l[i]? = some x) : rol x.k ≠ 0 := by
  obtain ⟨x', y, h1, _, _, _, _, _, h7, _⟩ := h
  rw [hx] at h1; cases h1
  exact h7
theorem wd_iff (l : List Ins) : (∀ i, i < l.length → flt l (regs l) i = 0) ↔ Wd l := by
  constructor
  · intro hv
    have hf : ∀ (i : Nat) (x : Ins), l[i]? = some x → flt l (regs l) i = 0 := fun i x hx => hv i (lt_len hx)
    have hvl : ∀ (i : Nat) (x : Ins), l[i]? = some x → vld x = true := fun i x hx => flt_vld hx (hf i x hx)
    have hpair : ∀ (i : Nat) (x : Ins), l[i]? = some x → rol x.k ≠ 0 → ∃ j, PR l i j := fun i x hx hr => by
      have h := hf i x hx
      rw [flt_eq hx, if_neg (by rw [hvl i x hx]; decide), if_neg hr] at h
      cases hp : part l i with
      | none => rw [hp] at h; simp only at h; omega
      | some t => obtain ⟨j, _, hj⟩ := (part_iff l i t).1 hp; exact ⟨j, hj⟩
    have hdisj : ∀ s e s' e' : Nat, St l s e → St l s' e' → s < s' → e < s' := fun s e s' e' h h' hlt => by
      obtain ⟨x, hx⟩ : ∃ x, l[s']? = some x := ⟨_, List.getElem?_eq_getElem h'.1.lt.1⟩
      have hk : x.k = 32 := by have := h'.2; rw [hx] at this; simpa using this
      have hr : rol x.k = 3 := (rol3 _).2 hk
      have hq := hf s' x hx
      rw [flt_eq hx, if_neg (by rw [hvl s' x hx]; decide), if_neg (by rw [hr]; decide), (part_iff l s' (e' : Int)).2 ⟨e', rfl, h'.1⟩] at hq
      simp only at hq
      rw [if_pos hr] at hq
      split at hq
      · omega
      · rename_i hn
        rcases Nat.lt_or_ge e s' with h5 | h5
        · exact h5
        · exact absurd (rgn_out.2 ⟨s, e, h, hlt, h5⟩) hn
    refine ⟨hvl, fun i x hx hk => ?_, hpair, hdisj, fun i j x hx hr hp => ?_⟩
    · have h := hf i x hx
      have h0 : rol x.k = 0 := rol_other _ (by omega)
      rw [flt_eq hx, if_neg (by rw [hvl i x hx]; decide), if_pos h0, if_pos hk] at h
      exact cfl_iff.1 h
    · have h := hf i x hx
      rw [flt_eq hx, if_neg (by rw [hvl i x hx]; decide), if_neg (by omega), (part_iff l i (j : Int)).2 ⟨j, rfl, hp⟩] at h
      simp only at h
      rw [if_neg (by omega), if_pos hr, Int.toNat_natCast] at h
      split at h
      · omega
      · rename_i hn
        exact (same_rgn hdisj i j).1 (by simpa using hn)
  · intro h i hi
    obtain ⟨x, hx⟩ : ∃ x, l[i]? = some x := ⟨_, List.getElem?_eq_getElem hi⟩
    rw [flt_eq hx, if_neg (by rw [h.vl i x hx]; decide)]
    by_cases h0 : rol x.k = 0
    · rw [if_pos h0]
      by_cases hk : x.k = 30 ∨ x.k = 31
      · rw [if_pos hk]; exact cfl_iff.2 (h.call i x hx hk)
      · rw [if_neg hk]
    · rw [if_neg h0]
      obtain ⟨j, hj⟩ := h.pair i x hx h0
      rw [(part_iff l i (j : Int)).2 ⟨j, rfl, hj⟩]
      simp only
      by_cases h3 : rol x.k = 3
      · rw [if_pos h3, if_neg]
        intro hc
        obtain ⟨s, e, hs, h5, h6⟩ := rgn_out.1 hc
        have := h.disj s e i j hs ⟨hj, by rw [hx]; simp [(rol3 _).1 h3]⟩ h5
        omega
      · rw [if_neg h3]
        by_cases h12 : rol x.k = 1 ∨ rol x.k = 2
        · rw [if_pos h12, if_neg, ]
          intro hc
          rw [Int.toNat_natCast] at hc
          exact hc ((same_rgn h.disj i j).2 (h.jumps i j x hx h12 hj))
        · rw [if_neg h12]
theorem wd_ck {l : List Ins} {m s : Int} : ckE l m s = 0 ↔ rngB m s = false ∧ Wd l :=
  ⟨fun h => ⟨(ckE_ok h).1, (wd_iff l).1 (ckE_ok h).2⟩, fun h => ckE_mk h.1 ((wd_iff l).2 h.2)⟩
theorem ckI_ok {l : List Ins} {m s : Int} (h : ckE l m s = 0) : ckI l m s = -1 := by
  obtain ⟨h1, h2⟩ := ckE_ok h
  unfold ckI
  rw [h1, if_neg (by decide), fb_none h2]
end Go.Proofs.YtalkhkhnpplofaaDoor
