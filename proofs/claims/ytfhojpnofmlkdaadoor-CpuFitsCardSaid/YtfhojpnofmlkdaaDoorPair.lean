/- Pairs of instructions: when one is the partner of the other. No program here. -/
import Derived.Test.YtfhojpnofmlkdaaDoorRows
import Derived.WalkKit
import Derived.ProofKit
import Derived.OpenShut
import Derived.Below
import Derived.Lib.Hide
import Derived.Outline
import Derived.WalkLawsBesides
import Derived.WalkSpells
import Derived.WalkSmall
import Derived.IntWalk
import Derived.Deep.QuietTactic
import Derived.BigQuiet
import Derived.Deep.RegionHeld3
import Derived.StillTailTactics
import Derived.Handy
import Derived.Deep.Cut
import Derived.Deep.OwnRows
import Derived.Deep.RegionWith
import Derived.Test.YtfhojpnofmlkdaaDoorPart
namespace Go.Proofs.YtfhojpnofmlkdaaDoor
open Go.ChangeShapes Go.WideShapes Go.ChangeAt Go.RowKit
set_option linter.unusedSimpArgs false
set_option linter.unusedVariables false
set_option maxRecDepth 100000
set_option maxRecDepth 100000
theorem rol1 (k : Int) : rol k = 1 ↔ jmp k = true := by
  unfold rol jmp
  constructor
  · intro h; split at h <;> first | (rename_i h1; simpa using h1) | (split at h <;> first | omega | (split at h <;> first | omega | (split at h <;> omega)))
  · intro h; rw [if_pos (by simpa using h)]
theorem rol2 (k : Int) : rol k = 2 ↔ lnd k = true := by
  unfold rol lnd
  constructor
  · intro h; split at h <;> first | omega | (split at h <;> first | (rename_i h1; simpa using h1) | (split at h <;> first | omega | (split at h <;> omega)))
  · intro h
    have h1 : k = 25 ∨ k = 26 ∨ k = 27 := by simpa using h
    rw [if_neg (by omega), if_pos h1]
theorem rol3 (k : Int) : rol k = 3 ↔ k = 32 := by
  unfold rol
  constructor
  · intro h; split at h <;> first | omega | (split at h <;> first | omega | (split at h <;> first | assumption | (split at h <;> omega)))
  · rintro rfl; rfl
theorem rol4 (k : Int) : rol k = 4 ↔ k = 33 := by
  unfold rol
  constructor
  · intro h; split at h <;> first | omega | (split at h <;> first | omega | (split at h <;> first | omega | (split at h <;> first | assumption | omega)))
  · rintro rfl; rfl
theorem tgt_rtg (x : Ins) (h : rol x.k ≠ 0) : tgt x = rtg x.k x.a x.b := by
  by_cases hk : x.k ≠ 22 ∧ x.k ≠ 23 ∧ x.k ≠ 24 ∧ x.k ≠ 25 ∧ x.k ≠ 26 ∧ x.k ≠ 27 ∧ x.k ≠ 32 ∧ x.k ≠ 33
  · exact absurd (rol_other x.k (by omega)) h
  · unfold tgt
    rcases (by omega : x.k = 22 ∨ x.k = 23 ∨ x.k = 24 ∨ x.k = 25 ∨ x.k = 26 ∨ x.k = 27 ∨ x.k = 32 ∨ x.k = 33) with e | e | e | e | e | e | e | e <;> rw [e] <;> rfl
/-- i and j are partners, i being looked at -/
def PR (L : List Ins) (i j : Nat) : Prop := ∃ x y, L[i]? = some x ∧ L[j]? = some y ∧ vld x = true ∧ vld y = true ∧ tgt x = j ∧ tgt y = i ∧ rol x.k ≠ 0 ∧ rol y.k = opp (rol x.k) ∧ (rol x.k = 3 → i < j) ∧ (rol x.k = 4 → j < i)
theorem opp_opp (r : Int) (h : r = 1 ∨ r = 2 ∨ r = 3 ∨ r = 4) : opp (opp r) = r ∧ opp r ≠ 0 := by rcases h with rfl | rfl | rfl | rfl <;> exact ⟨rfl, by decide⟩
theorem rol_ne {k : Int} (h : rol k ≠ 0) : rol k = 1 ∨ rol k = 2 ∨ rol k = 3 ∨ rol k = 4 := by
  rcases rol_cases k with h1 | h1
  · exact absurd h1 h
  · exact h1
theorem PR.symm {L : List Ins} {i j : Nat} (h : PR L i j) : PR L j i := by
  obtain ⟨x, y, h1, h2, h3, h4, h5, h6, h7, h8, h9, h10⟩ := h
  obtain ⟨o1, o2⟩ := opp_opp _ (rol_ne h7)
  refine ⟨y, x, h2, h1, h4, h3, h6, h5, by rw [h8]; exact o2, by rw [h8, o1], fun e => ?_, fun e => ?_⟩
  · rw [h8] at e
    rcases rol_ne h7 with r | r | r | r <;> rw [r] at e
    · exact absurd e (by decide)
    · exact absurd e (by decide)
    · exact absurd e (by decide)
    · exact h10 r
  · rw [h8] at e
    rcases rol_ne h7 with r | r | r | r <;> rw [r] at e
    · exact absurd e (by decide)
    · exact absurd e (by decide)
    · exact h9 r
    · exact absurd e (by decide)
theorem PR.fun {L : List Ins} {i j k : Nat} (h : PR L i j) (h' : PR L i k) : j = k := by
  obtain ⟨x, y, h1, h2, h3, h4, h5, h6, h7, h8, h9, h10⟩ := h
  obtain ⟨x', y', h1', _, _, _, h5', _⟩ := h'
  rw [h1] at h1'; cases h1'
  rw [h5] at h5'
  omega
theorem PR.ne {L : List Ins} {i j : Nat} (h : PR L i j) : i ≠ j := by
  rintro rfl
  obtain ⟨x, y, h1, h2, h3, h4, h5, h6, h7, h8, h9, h10⟩ := h
  rw [h1] at h2; cases h2
  rcases rol_ne h7 with r | r | r | r <;> rw [r] at h8 <;> exact absurd h8 (by decide)
theorem PR.lt {L : List Ins} {i j : Nat} (h : PR L i j) : i < L.length ∧ j < L.length := by
  obtain ⟨x, y, h1, h2, _⟩ := h
  exact ⟨lt_len h1, lt_len h2⟩
theorem lk_pos {x : Ins} {i : Int} (h1 : rol x.k ≠ 0) (h2 : vld x = true) (h3 : rol x.k = 3 → i ≤ tgt x) (h4 : rol x.k = 4 → tgt x ≤ i) : lkF x i = i ∧ lkT x i = tgt x ∧ lkR x i = rol x.k := by
  have hc : ¬ (rol x.k = 0 ∨ vld x = false ∨ (rol x.k = 3 ∧ tgt x < i) ∨ (rol x.k = 4 ∧ i < tgt x)) := by
    rintro (h | h | h | h)
    · exact h1 h
    · rw [h2] at h; cases h
    · have := h3 h.1; omega
    · have := h4 h.1; omega
  exact ⟨by unfold lkF; rw [if_neg hc], by unfold lkT; rw [if_neg hc], by unfold lkR; rw [if_neg hc]⟩
theorem lk_ne {x : Ins} {i : Int} (h : lkR x i ≠ 0) : rol x.k ≠ 0 ∧ vld x = true ∧ (rol x.k = 3 → i ≤ tgt x) ∧ (rol x.k = 4 → tgt x ≤ i) ∧ lkF x i = i ∧ lkT x i = tgt x ∧ lkR x i = rol x.k := by
  by_cases hc : rol x.k = 0 ∨ vld x = false ∨ (rol x.k = 3 ∧ tgt x < i) ∨ (rol x.k = 4 ∧ i < tgt x)
  · exact absurd (by unfold lkR; rw [if_pos hc]) h
  · have g1 : rol x.k ≠ 0 := fun e => hc (.inl e)
    have g2 : vld x = true := by cases hv : vld x; exact absurd (.inr (.inl hv)) hc; rfl
    have g3 : rol x.k = 3 → i ≤ tgt x := fun e => by
      rcases Int.lt_or_le (tgt x) i with h5 | h5
      · exact absurd (.inr (.inr (.inl ⟨e, h5⟩))) hc
      · exact h5
    have g4 : rol x.k = 4 → tgt x ≤ i := fun e => by
      rcases Int.lt_or_le i (tgt x) with h5 | h5
      · exact absurd (.inr (.inr (.inr ⟨e, h5⟩))) hc
      · exact h5
    exact ⟨g1, g2, g3, g4, lk_pos g1 g2 g3 g4⟩
theorem part_iff (L : List Ins) (i : Nat) (t : Int) : part L i = some t ↔ ∃ j : Nat, t = j ∧ PR L i j := by
  constructor
  · intro h
    cases hx : L[i]? with
    | none => unfold part at h; rw [if_neg (by omega), Int.toNat_natCast, hx] at h; cases h
    | some x =>
      rw [part_at hx] at h
      split at h
      · cases h
      · rename_i hc
        have hr : lkR x i ≠ 0 := fun e => hc (.inl e)
        obtain ⟨g1, g2, g3, g4, g5, g6, g7⟩ := lk_ne hr
        have ht := vld_tgt x g2 g1
        rw [g6] at h
        obtain ⟨j, hj⟩ : ∃ j : Nat, tgt x = j := ⟨(tgt x).toNat, by omega⟩
        rw [hj, Int.toNat_natCast] at h
        cases hy : L[j]? with
        | none => rw [hy] at h; cases h
        | some y =>
          rw [hy] at h
          simp only at h
          split at h
          · rename_i hd
            obtain ⟨d1, d2, d3⟩ := hd
            cases h
            rw [g5] at d2
            rw [g7] at d3
            obtain ⟨o1, o2⟩ := opp_opp _ (rol_ne g1)
            obtain ⟨e1, e2, e3, e4, e5, e6, e7⟩ := lk_ne (x := y) (i := (j : Int)) (by rw [d3]; exact o2)
            rw [e6] at d2
            rw [e7] at d3
            refine ⟨j, rfl, x, y, hx, hy, g2, e2, hj, d2, g1, d3, fun e => ?_, fun e => ?_⟩
            · have h1 := g3 e
              rw [hj] at h1
              rcases Nat.lt_or_ge i j with h2 | h2
              · exact h2
              · have : i = j := by omega
                subst this
                rw [hx] at hy; cases hy
                rw [e] at d3; exact absurd d3 (by decide)
            · have h1 := g4 e
              rw [hj] at h1
              rcases Nat.lt_or_ge j i with h2 | h2
              · exact h2
              · have : i = j := by omega
                subst this
                rw [hx] at hy; cases hy
                rw [e] at d3; exact absurd d3 (by decide)
          · cases h
  · rintro ⟨j, rfl, x, y, h1, h2, h3, h4, h5, h6, h7, h8, h9, h10⟩
    obtain ⟨o1, o2⟩ := opp_opp _ (rol_ne h7)
    obtain ⟨f1, f2, f3⟩ := lk_pos (x := x) (i := (i : Int)) h7 h3 (fun e => by have := h9 e; omega) (fun e => by have := h10 e; omega)
    have hs := PR.symm ⟨x, y, h1, h2, h3, h4, h5, h6, h7, h8, h9, h10⟩
    obtain ⟨y', x', k1, k2, k3, k4, k5, k6, k7, k8, k9, k10⟩ := hs
    rw [h2] at k1; cases k1
    obtain ⟨f4, f5, f6⟩ := lk_pos (x := y) (i := (j : Int)) k7 k3 (fun e => by have := k9 e; omega) (fun e => by have := k10 e; omega)
    have hl := lt_len h2
    rw [part_at h1, f2, f3, h5, if_neg (by rintro (h | h); exact h7 h; omega), Int.toNat_natCast, h2]
    simp only
    rw [f4, f5, f6, f1, h6, h8, if_pos ⟨rfl, rfl, rfl⟩]
/-- the partner as the reference gives it -/
def rp (L : List Ins) (i : Int) : Int := (part L i).getD (-1)
theorem rp_some {L : List Ins} {i j : Nat} (h : PR L i j) : rp L i = j := by unfold rp; rw [(part_iff L i j).2 ⟨j, rfl, h⟩]; rfl
theorem rp_none {L : List Ins} {i : Nat} (h : ∀ j, ¬ PR L i j) : rp L i = -1 := by
  unfold rp
  cases hp : part L i with
  | none => rfl
  | some t => obtain ⟨j, _, hj⟩ := (part_iff L i t).1 hp; exact absurd hj (h j)
theorem rp_neg {L : List Ins} {i : Nat} (h : rp L i < 0) : ∀ j, ¬ PR L i j := fun j hj => by rw [rp_some hj] at h; omega
/-- what the reference asks of the opcodes of a pair: a stands first -/
def ops2 (a b : Int) (ne : Bool) : Bool := (jmp a && lnd b) || (lnd a && jmp b) || (ne && a == 32 && b == 33)
theorem ops2_pr {L : List Ins} {i j : Nat} {x y : Ins} (hx : L[i]? = some x) (hy : L[j]? = some y) (vx : vld x = true) (vy : vld y = true) (tx : rtg x.k x.a x.b = j) (ty : rtg y.k y.a y.b = i)
    (h : ops2 (if i ≤ j then x.k else y.k) (if i ≤ j then y.k else x.k) (decide (i ≠ j)) = true) : PR L i j := by
  unfold ops2 at h
  simp only [Bool.or_eq_true, Bool.and_eq_true, beq_iff_eq] at h
  have key : ∀ r : Int, rol x.k = r → r ≠ 0 → rol y.k = opp r → (r = 3 → i < j) → (r = 4 → j < i) → PR L i j := fun r h1 h2 h3 h4 h5 =>
    ⟨x, y, hx, hy, vx, vy, (tgt_rtg x (by rw [h1]; exact h2)).trans tx, (tgt_rtg y (by rw [h3]; intro e; unfold opp at e; split at e; omega; split at e; omega; split at e; omega; split at e; omega; rcases rol_cases x.k with q | q | q | q | q <;> omega)).trans ty, by rw [h1]; exact h2, by rw [h1]; exact h3, fun e => h4 (h1.symm.trans e), fun e => h5 (h1.symm.trans e)⟩
  by_cases hij : i ≤ j
  · rw [if_pos hij, if_pos hij] at h
    rcases h with (⟨h1, h2⟩ | ⟨h1, h2⟩) | ⟨⟨h1, h2⟩, h3⟩
    · exact key 1 ((rol1 _).2 h1) (by decide) ((rol2 _).2 h2) (fun e => by omega) (fun e => by omega)
    · exact key 2 ((rol2 _).2 h1) (by decide) ((rol1 _).2 h2) (fun e => by omega) (fun e => by omega)
    · have hne : i ≠ j := by simpa using h1
      exact key 3 ((rol3 _).2 h2) (by decide) ((rol4 _).2 h3) (fun e => by omega) (fun e => by omega)
  · rw [if_neg hij, if_neg hij] at h
    rcases h with (⟨h1, h2⟩ | ⟨h1, h2⟩) | ⟨⟨h1, h2⟩, h3⟩
    · exact key 2 ((rol2 _).2 h2) (by decide) ((rol1 _).2 h1) (fun e => by omega) (fun e => by omega)
    · exact key 1 ((rol1 _).2 h2) (by decide) ((rol2 _).2 h1) (fun e => by omega) (fun e => by omega)
    · exact key 4 ((rol4 _).2 h3) (by decide) ((rol3 _).2 h2) (fun e => by omega) (fun e => by omega)
theorem pr_ops2 {L : List Ins} {i j : Nat} {x y : Ins} (hx : L[i]? = some x) (hy : L[j]? = some y) (h : PR L i j) : ops2 (if i ≤ j then x.k else y.k) (if i ≤ j then y.k else x.k) (decide (i ≠ j)) = true := by
  have hne := h.ne
  obtain ⟨x', y', h1, h2, h3, h4, h5, h6, h7, h8, h9, h10⟩ := h
  rw [hx] at h1; cases h1
  rw [hy] at h2; cases h2
  unfold ops2
  simp only [Bool.or_eq_true, Bool.and_eq_true, beq_iff_eq]
  rcases rol_ne h7 with r | r | r | r <;> rw [r] at h8
  · have a1 := (rol1 _).1 r
    have a2 := (rol2 _).1 (h8.trans rfl)
    by_cases hij : i ≤ j
    · rw [if_pos hij, if_pos hij]; exact .inl (.inl ⟨a1, a2⟩)
    · rw [if_neg hij, if_neg hij]; exact .inl (.inr ⟨a2, a1⟩)
  · have a1 := (rol2 _).1 r
    have a2 := (rol1 _).1 (h8.trans rfl)
    by_cases hij : i ≤ j
    · rw [if_pos hij, if_pos hij]; exact .inl (.inr ⟨a1, a2⟩)
    · rw [if_neg hij, if_neg hij]; exact .inl (.inl ⟨a2, a1⟩)
  · have hl := h9 r
    rw [if_pos (by omega), if_pos (by omega)]
    exact .inr ⟨⟨by simpa using hne, (rol3 _).1 r⟩, (rol4 _).1 (h8.trans rfl)⟩
  · have hl := h10 r
    rw [if_neg (by omega), if_neg (by omega)]
    exact .inr ⟨⟨by simpa using hne, (rol3 _).1 (h8.trans rfl)⟩, (rol4 _).1 r⟩
theorem pr_data {L : List Ins} {i j : Nat} (h : PR L i j) : ∃ x y, L[i]? = some x ∧ L[j]? = some y ∧ vld x = true ∧ vld y = true ∧ rtg x.k x.a x.b = j ∧ rtg y.k y.a y.b = i := by
  have hs := h.symm
  obtain ⟨x, y, h1, h2, h3, h4, h5, h6, h7, h8, _⟩ := h
  obtain ⟨y', x', k1, k2, _, _, _, _, k7, _⟩ := hs
  rw [h2] at k1; cases k1
  exact ⟨x, y, h1, h2, h3, h4, by rw [← tgt_rtg x h7]; exact h5, by rw [← tgt_rtg y k7]; exact h6⟩
end Go.Proofs.YtfhojpnofmlkdaaDoor
