/- Whether any two instructions cancel is what the reference says. -/
import Derived.Test.YtkfmhmkeikhdbaaDoorCanc
import Derived.Test.YtkfmhmkeikhdbaaDoorPvS
namespace Go.Proofs.YtkfmhmkeikhdbaaDoor
open Go.Proofs.YtkfmhmkeikhdbaaDoor.Pv Go.RowKit
set_option maxRecDepth 100000
set_option maxHeartbeats 4000000
set_option linter.unusedSimpArgs false
set_option linter.unusedVariables false

theorem awake60 : iso Tryd.prog X 60 10 [] = some (.bool true) := by kernel_rfl
theorem s10 : IsoS Tryd.prog X 60 (10, g10) := fun l r h => by
  simp only [g10] at h
  split at h
  · cases h; exact awake60
  · cases h
theorem ins_of {fuel : Nat} {p : List PV} (h : Ty Tryd.prog fuel 23 p) : ∃ (k : Nat) (a b c d : Int), Pv.valOf Tryd.prog 23 p = (.agg [.int .u8 (.ofNat k), .int .i64 a, .int .i64 b, .int .i64 c, .int .i64 d]) := by
  obtain ⟨m, parts, rfl, hl, hp⟩ := ty_struct Tryd.underlying23 h
  match parts, hl, hp with
  | [p0, p1, p2, p3, p4], _, hp =>
    obtain ⟨i0, rfl, h0, _⟩ := ty_int Tryd.underlying5 (hp 0 _ p0 rfl rfl)
    obtain ⟨i1, rfl, _⟩ := ty_int Tryd.underlying3 (hp 1 _ p1 rfl rfl)
    obtain ⟨i2, rfl, _⟩ := ty_int Tryd.underlying3 (hp 2 _ p2 rfl rfl)
    obtain ⟨i3, rfl, _⟩ := ty_int Tryd.underlying3 (hp 3 _ p3 rfl rfl)
    obtain ⟨i4, rfl, _⟩ := ty_int Tryd.underlying3 (hp 4 _ p4 rfl rfl)
    obtain ⟨k, rfl⟩ : ∃ k : Nat, i0 = k := ⟨i0.toNat, by have : (0 : Int) ≤ i0 := h0; omega⟩
    refine ⟨k, i1, i2, i3, i4, ?_⟩
    unfold Pv.valOf
    rw [Tryd.underlying23]
    rfl
theorem can_eq (k : Nat) (a b c d k' a' b' c' d' : Int) : canP k a b c d k' a' b' c' d' = (validB k a b c d && canR k a b c d k' a' b' c' d') := by
  rcases small k with hk | ⟨m, rfl⟩
  · unfold canP canR
    generalize validB k a b c d = v
    rcases (by omega : k = 0 ∨ k = 1 ∨ k = 2 ∨ k = 3 ∨ k = 4 ∨ k = 5 ∨ k = 6 ∨ k = 7 ∨ k = 8 ∨ k = 9 ∨ k = 10 ∨ k = 11 ∨ k = 12 ∨ k = 13 ∨ k = 14 ∨ k = 15 ∨ k = 16 ∨ k = 17 ∨ k = 18 ∨ k = 19 ∨ k = 20 ∨ k = 21 ∨ k = 22 ∨ k = 23 ∨ k = 24 ∨ k = 25 ∨ k = 26 ∨ k = 27 ∨ k = 28 ∨ k = 29 ∨ k = 30 ∨ k = 31 ∨ k = 32 ∨ k = 33 ∨ k = 34) with rfl | rfl | rfl | rfl | rfl | rfl | rfl | rfl | rfl | rfl | rfl | rfl | rfl | rfl | rfl | rfl | rfl | rfl | rfl | rfl | rfl | rfl | rfl | rfl | rfl | rfl | rfl | rfl | rfl | rfl | rfl | rfl | rfl | rfl | rfl <;> simp [tb, tg, ctl, invO, inv35, same] <;> grind
  · have : validB ((m + 35 : Nat) : Int) a b c d = false := by unfold validB; rw [decide_eq_false (by omega)]; rfl
    unfold canP
    rw [this]
    simp
theorem canc_law (l : List PV) (h : Tys Tryd.prog [23, 23] l) : ∃ n, iso Tryd.prog X n 3 l = some (.bool true) := by
  cases h with
  | cons _ _ _ p _ h hs =>
    cases hs with
    | cons _ _ _ q _ h' hs =>
      cases hs
      obtain ⟨k, a, b, c, d, e1⟩ := ins_of h
      obtain ⟨k', a', b', c', d', e2⟩ := ins_of h'
      rw [e1, e2]
      refine ⟨61, gis_sound (n := 60) (by omega) (tab_le (all_cons s10 (all_cons (s11 60 (by omega)) (all_cons (s12 60 (by omega)) (all_cons (s13 60 (by omega)) (all_cons (s14 60 (by omega)) all_nil))))) all_nil) fd3 (by rfl) (t3 60 k a b c d k' a' b' c' d') ?_⟩
      simp only [Holds, can_eq, Int.ofNat_eq_natCast]
      generalize validB k a b c d = v
      generalize canR k a b c d k' a' b' c' d' = x
      generalize canR k a b c d (invO k) a b c d = y
      cases v <;> cases x <;> cases y <;> simp
#print axioms canc_law
end Go.Proofs.YtkfmhmkeikhdbaaDoor
