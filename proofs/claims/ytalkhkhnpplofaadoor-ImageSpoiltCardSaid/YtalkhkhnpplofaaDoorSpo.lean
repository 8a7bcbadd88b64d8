/- An image with one instruction struck. -/
import Derived.Test.YtalkhkhnpplofaaDoorRows
import Derived.WalkKit
import Derived.ProofKit
import Derived.OpenShut
import Derived.Below
import Derived.Lib.Hide
import Derived.Outline
import Derived.WalkLawsBesides
import Derived.WalkSpells
import Derived.WalkSmall
import Derived.IntWalk
import Derived.Deep.QuietTactic
import Derived.BigQuiet
import Derived.Deep.RegionHeld3
import Derived.StillTailTactics
import Derived.Handy
import Derived.Deep.Cut
import Derived.Deep.OwnRows
import Derived.Deep.RegionWith
import Derived.Test.YtalkhkhnpplofaaDoorCov
namespace Go.Proofs.YtalkhkhnpplofaaDoor
open Go.ChangeShapes Go.WideShapes Go.ChangeAt Go.RowKit
set_option linter.unusedSimpArgs false
set_option linter.unusedVariables false

/-- the image whose instruction i is struck -/
def spo (l : List Ins) (i : Nat) : List Ins := l.set i zins
theorem spo_len (l : List Ins) (i : Nat) : (spo l i).length = l.length := by simp [spo]
theorem spo_at (l : List Ins) (i j : Nat) (h : j ≠ i) : (spo l i)[j]? = l[j]? := by unfold spo; rw [List.getElem?_set_ne (Ne.symm h)]
theorem spo_self {l : List Ins} {i : Nat} (h : i < l.length) : (spo l i)[i]? = some zins := by unfold spo; rw [List.getElem?_set_self h]
theorem z_rol : rol zins.k = 0 := rfl
theorem z_vld : vld zins = true := by decide +kernel
theorem spo_pr {l : List Ins} {i a b : Nat} : PR (spo l i) a b ↔ PR l a b ∧ a ≠ i ∧ b ≠ i := by
  constructor
  · intro h
    have hl := h.lt
    rw [spo_len] at hl
    have ha : a ≠ i := by
      rintro rfl
      exact pr_role h (spo_self hl.1) z_rol
    have hb : b ≠ i := by
      rintro rfl
      exact pr_role h.symm (spo_self hl.2) z_rol
    obtain ⟨x, y, h1, h2, h3⟩ := h
    rw [spo_at l i a ha] at h1
    rw [spo_at l i b hb] at h2
    exact ⟨⟨x, y, h1, h2, h3⟩, ha, hb⟩
  · rintro ⟨⟨x, y, h1, h2, h3⟩, ha, hb⟩
    exact ⟨x, y, by rw [spo_at l i a ha]; exact h1, by rw [spo_at l i b hb]; exact h2, h3⟩
theorem spo_st {l : List Ins} {i s e : Nat} : St (spo l i) s e ↔ St l s e ∧ s ≠ i ∧ e ≠ i := by
  unfold St
  rw [spo_pr]
  constructor
  · rintro ⟨⟨h1, h2, h3⟩, h4⟩
    rw [spo_at l i s h2] at h4
    exact ⟨⟨h1, h4⟩, h2, h3⟩
  · rintro ⟨⟨h1, h4⟩, h2, h3⟩
    exact ⟨⟨h1, h2, h3⟩, by rw [spo_at l i s h2]; exact h4⟩
/-- striking an instruction without partner leaves the image without faults -/
theorem spo_ok {l : List Ins} (h : Wd l) {i : Nat} (hp : ∀ j, ¬ PR l i j) : Wd (spo l i) := by
  have hst : ∀ {s e : Nat}, St l s e → s ≠ i ∧ e ≠ i := fun hs => ⟨by rintro rfl; exact hp _ hs.1, by rintro rfl; exact hp _ hs.1.symm⟩
  have key : ∀ (j : Nat) (x : Ins), (spo l i)[j]? = some x → (j = i ∧ x = zins) ∨ (j ≠ i ∧ l[j]? = some x) := fun j x hx => by
    by_cases e : j = i
    · subst e
      have hl := lt_len hx
      rw [spo_len] at hl
      rw [spo_self hl] at hx
      exact .inl ⟨rfl, (Option.some.inj hx).symm⟩
    · rw [spo_at l i j e] at hx; exact .inr ⟨e, hx⟩
  refine ⟨fun j x hx => ?_, fun j x hx hk => ?_, fun j x hx hr => ?_, fun s e s' e' hs hs' hlt => ?_, fun j q x hx hr hq s e hs => ?_⟩
  · rcases key j x hx with ⟨_, rfl⟩ | ⟨_, hx⟩
    · exact z_vld
    · exact h.vl j x hx
  · rcases key j x hx with ⟨_, rfl⟩ | ⟨_, hx⟩
    · rcases hk with hk | hk <;> exact absurd hk (by decide)
    · obtain ⟨p, e, hp1, hs⟩ := h.call j x hx hk
      exact ⟨p, e, hp1, spo_st.2 ⟨hs, hst hs⟩⟩
  · rcases key j x hx with ⟨_, rfl⟩ | ⟨hne, hx⟩
    · exact absurd z_rol hr
    · obtain ⟨q, hq⟩ := h.pair j x hx hr
      exact ⟨q, spo_pr.2 ⟨hq, hne, by rintro rfl; exact hp _ hq.symm⟩⟩
  · exact h.disj _ _ _ _ (spo_st.1 hs).1 (spo_st.1 hs').1 hlt
  · rcases key j x hx with ⟨_, rfl⟩ | ⟨_, hx⟩
    · rcases hr with hr | hr <;> exact absurd (z_rol.symm.trans hr) (by decide)
    · exact h.jumps j q x hx hr (spo_pr.1 hq).1 s e (spo_st.1 hs).1
/-- what a fault of the spoilt image can be -/
theorem spo_flt {l : List Ins} (h : Wd l) {i p : Nat} (hp : PR l i p) {j : Nat} (hj : j < l.length) :
    flt (spo l i) (regs (spo l i)) j = 0 ∨ (flt (spo l i) (regs (spo l i)) j = 23 ∧ (j = p ∨ ∃ x, l[j]? = some x ∧ (x.k = 30 ∨ x.k = 31) ∧ (x.a = i ∨ x.a = p))) := by
  by_cases hji : j = i
  · subst hji
    left
    rw [flt_eq (spo_self hj), if_neg (by rw [z_vld]; decide), if_pos z_rol, if_neg (by decide)]
  obtain ⟨x, hx⟩ : ∃ x, l[j]? = some x := ⟨_, List.getElem?_eq_getElem hj⟩
  have hx2 : (spo l i)[j]? = some x := by rw [spo_at l i j hji]; exact hx
  rw [flt_eq hx2, if_neg (by rw [h.vl j x hx]; decide)]
  by_cases h0 : rol x.k = 0
  · rw [if_pos h0]
    by_cases hk : x.k = 30 ∨ x.k = 31
    · rw [if_pos hk]
      obtain ⟨s, e, hs1, hs⟩ := h.call j x hx hk
      by_cases hc : s ≠ i ∧ e ≠ i
      · left
        exact cfl_iff.2 ⟨s, e, hs1, spo_st.2 ⟨hs, hc⟩⟩
      · right
        refine ⟨?_, .inr ⟨x, hx, hk, ?_⟩⟩
        · have hne : cfl (spo l i) x.a ≠ 0 := fun e0 => by
            obtain ⟨s', e', h1, h2⟩ := cfl_iff.1 e0
            obtain ⟨h2, h3, h4⟩ := spo_st.1 h2
            obtain rfl : s = s' := by omega
            obtain rfl := hs.fun h2
            exact hc ⟨h3, h4⟩
          unfold cfl at hne ⊢
          split at hne
          · exact absurd rfl hne
          · rename_i hq; rw [if_neg hq]
        · rcases Decidable.not_and_iff_not_or_not.1 hc with hc | hc
          · have : s = i := by omega
            left; omega
          · have he : e = i := by omega
            subst he
            have := hp.fun hs.1.symm
            right; omega
    · rw [if_neg hk]; exact .inl rfl
  · rw [if_neg h0]
    obtain ⟨q, hq⟩ := h.pair j x hx h0
    by_cases hqi : q = i
    · subst hqi
      have hjp := hq.symm.fun hp
      right
      refine ⟨?_, .inl hjp⟩
      have hn : part (spo l q) (j : Int) = none := by
        cases hpp : part (spo l q) (j : Int) with
        | none => rfl
        | some t =>
          obtain ⟨u, _, hu⟩ := (part_iff _ _ _).1 hpp
          obtain ⟨h1, h2, h3⟩ := spo_pr.1 hu
          exact absurd (h1.fun hq) h3
      rw [hn]
    · left
      rw [(part_iff _ _ (q : Int)).2 ⟨q, rfl, spo_pr.2 ⟨hq, hji, hqi⟩⟩]
      simp only
      by_cases h3 : rol x.k = 3
      · rw [if_pos h3, if_neg]
        intro hc
        obtain ⟨s, e, hs, h5, h6⟩ := rgn_out.1 hc
        have := h.disj s e j q (spo_st.1 hs).1 ⟨hq, by rw [hx]; simp [(rol3 _).1 h3]⟩ h5
        omega
      · rw [if_neg h3]
        by_cases h12 : rol x.k = 1 ∨ rol x.k = 2
        · rw [if_pos h12, if_neg]
          intro hc
          rw [Int.toNat_natCast] at hc
          refine hc ((same_rgn (fun s e s' e' hs hs' hlt => h.disj _ _ _ _ (spo_st.1 hs).1 (spo_st.1 hs').1 hlt) j q).2 fun s e hs => ?_)
          exact h.jumps j q x hx h12 hq s e (spo_st.1 hs).1
        · rw [if_neg h12]
theorem spo_ptn {l : List Ins} (h : Wd l) {i p : Nat} (hp : PR l i p) : flt (spo l i) (regs (spo l i)) p ≠ 0 := by
  have hne := hp.ne
  obtain ⟨x, hx⟩ : ∃ x, l[p]? = some x := ⟨_, List.getElem?_eq_getElem hp.lt.2⟩
  have hx2 : (spo l i)[p]? = some x := by rw [spo_at l i p (Ne.symm hne)]; exact hx
  have hr := pr_role hp.symm hx
  rw [flt_eq hx2, if_neg (by rw [h.vl p x hx]; decide), if_neg hr]
  have hn : part (spo l i) (p : Int) = none := by
    cases hpp : part (spo l i) (p : Int) with
    | none => rfl
    | some t =>
      obtain ⟨u, _, hu⟩ := (part_iff _ _ _).1 hpp
      obtain ⟨h1, h2, h3⟩ := spo_pr.1 hu
      exact absurd (h1.fun hp.symm) h3
  rw [hn]; simp
/-- the reported fault of the spoilt image -/
theorem spo_check {l : List Ins} (h : Wd l) {i p : Nat} (hp : PR l i p) {m s : Int} (hr : rngB m s = false) :
    ∃ (k : Nat) (x : Ins), ckI (spo l i) m s = k ∧ ckE (spo l i) m s = 23 ∧ l[k]? = some x ∧ k ≤ p ∧ (k = p ∨ (x.k = 30 ∨ x.k = 31) ∧ (x.a = i ∨ x.a = p)) := by
  cases hf : fb (spo l i) with
  | none =>
    unfold fb at hf
    rw [List.find?_eq_none] at hf
    have := hf p (by rw [List.mem_range, spo_len]; exact hp.lt.2)
    exact absurd (by simpa using this) (spo_ptn h hp)
  | some k =>
    have hf' := hf
    unfold fb at hf'
    have hle : k ≤ p := by
      have hq := hf'
      rw [List.find?_range_eq_some] at hq
      rcases Nat.lt_or_ge p k with h5 | h5
      · have := hq.2.2 p h5
        exact absurd (by simpa using this) (spo_ptn h hp)
      · exact h5
    have h1 := List.mem_of_find?_eq_some hf'
    have h2 := List.find?_some hf'
    rw [List.mem_range, spo_len] at h1
    simp at h2
    obtain ⟨x, hx⟩ : ∃ x, l[k]? = some x := ⟨_, List.getElem?_eq_getElem h1⟩
    rcases spo_flt h hp h1 with h3 | ⟨h3, h4⟩
    · exact absurd h3 h2
    · refine ⟨k, x, by unfold ckI; rw [hr, if_neg (by decide), hf], by unfold ckE; rw [hr, if_neg (by decide), hf]; exact h3, hx, hle, ?_⟩
      rcases h4 with h4 | ⟨y, hy, h5⟩
      · exact .inl h4
      · rw [hx] at hy; cases hy; exact .inr h5
theorem spo_none {l : List Ins} (h : Wd l) {i : Nat} (hp : ∀ j, ¬ PR l i j) {m s : Int} (hr : rngB m s = false) : ckI (spo l i) m s = -1 ∧ ckE (spo l i) m s = 0 := by
  have := wd_ck.2 ⟨hr, spo_ok h hp⟩
  exact ⟨ckI_ok this, this⟩

theorem set_off' {w : World} {b i o : Nat} {v x : Value} (hne : i ≠ o) (h : w.cell? ⟨b, o, none⟩ = some v) : (w.setCell ⟨b, i, none⟩ x).cell? ⟨b, o, none⟩ = some v :=
  (World.cell?_setCell_other _ _ _ _ (by intro e; simp only [Addr.mk.injEq] at e; omega)).trans h
theorem slice_spo {W : World} {g r : Nat} {l : List Ins} (h : SliceC W (some ⟨g, 0, none⟩) l) (hr : r < l.length) :
    SliceC (((((W.setCell ⟨g, r * 5, none⟩ (.int .u8 0)).setCell ⟨g, r * 5 + 1, none⟩ (.int .i64 0)).setCell ⟨g, r * 5 + 2, none⟩ (.int .i64 0)).setCell ⟨g, r * 5 + 3, none⟩ (.int .i64 0)).setCell ⟨g, r * 5 + 4, none⟩ (.int .i64 0)) (some ⟨g, 0, none⟩) (spo l r) := by
  intro hne
  obtain ⟨x, hx⟩ : ∃ x, l[r]? = some x := ⟨_, List.getElem?_eq_getElem hr⟩
  obtain ⟨b, o, e, hlt, d0, d1, d2, d3, d4⟩ := h.at hx
  cases e
  rw [Nat.zero_add] at d0 d1 d2 d3 d4
  refine ⟨g, 0, rfl, by simpa using hlt, fun i y hi => ?_⟩
  rw [Nat.zero_add]
  by_cases hir : i = r
  · subst hir
    rw [spo_self hr] at hi
    cases hi
    exact ⟨set_off' (by omega) (set_off' (by omega) (set_off' (by omega) (set_off' (by omega) (World.cell?_setCell_same _ _ _ d0)))),
      set_off' (by omega) (set_off' (by omega) (set_off' (by omega) (World.cell?_setCell_same _ _ _ (set_off' (by omega) d1)))),
      set_off' (by omega) (set_off' (by omega) (World.cell?_setCell_same _ _ _ (set_off' (by omega) (set_off' (by omega) d2)))),
      set_off' (by omega) (World.cell?_setCell_same _ _ _ (set_off' (by omega) (set_off' (by omega) (set_off' (by omega) d3)))),
      World.cell?_setCell_same _ _ _ (set_off' (by omega) (set_off' (by omega) (set_off' (by omega) (set_off' (by omega) d4))))⟩
  · rw [spo_at l r i hir] at hi
    obtain ⟨b, o, e, _, c0, c1, c2, c3, c4⟩ := h.at hi
    cases e
    rw [Nat.zero_add] at c0 c1 c2 c3 c4
    have k : ∀ {o : Nat} {u : Value}, (o < r * 5 ∨ r * 5 + 5 ≤ o) → W.cell? ⟨g, o, none⟩ = some u → (((((W.setCell ⟨g, r * 5, none⟩ (.int .u8 0)).setCell ⟨g, r * 5 + 1, none⟩ (.int .i64 0)).setCell ⟨g, r * 5 + 2, none⟩ (.int .i64 0)).setCell ⟨g, r * 5 + 3, none⟩ (.int .i64 0)).setCell ⟨g, r * 5 + 4, none⟩ (.int .i64 0)).cell? ⟨g, o, none⟩ = some u := fun ho hc =>
      set_off' (by omega) (set_off' (by omega) (set_off' (by omega) (set_off' (by omega) (set_off' (by omega) hc))))
    exact ⟨k (by omega) c0, k (by omega) c1, k (by omega) c2, k (by omega) c3, k (by omega) c4⟩
theorem spo_wf {l : List Ins} (h : WF l) (i : Nat) : WF (spo l i) := fun x hx => by
  rcases List.mem_or_eq_of_mem_set hx with h1 | h1
  · exact h x h1
  · subst h1; exact ⟨by decide, by decide⟩
end Go.Proofs.YtalkhkhnpplofaaDoor
