/- The inputs of this stage, by their types. -/
import Derived.Test.YtmkpdbofhpffaaaRb1
namespace Go.Proofs.Ytmkpdbofhpffaaa
open Go.Proofs.Ytmkpdbofhpffaaa.Pv Go.RowKit
set_option maxRecDepth 100000
set_option linter.unusedSimpArgs false
set_option linter.unusedVariables false
theorem ce3 : Try.prog.cellsOf 3 = 1 := by kernel_rfl
theorem ce23 : Try.prog.cellsOf 23 = 1 := by kernel_rfl
theorem ce36 : Try.prog.cellsOf 36 = 3 := by kernel_rfl
theorem vd_ty {m : Nat} {p : List PV} (h : Ty Try.prog m 36 p) : ∃ v : VD, p = v.cs := by
  obtain ⟨m, parts, rfl, hl, hp⟩ := ty_struct Try.underlying36 h
  match parts, hl, hp with
  | [p0, p1, p2], _, hp =>
    obtain ⟨s, rfl, _⟩ := ty_str Try.underlying9 (hp 0 _ p0 rfl rfl)
    obtain ⟨k, rfl, _⟩ := ty_int Try.underlying5 (hp 1 _ p1 rfl rfl)
    obtain ⟨n, rfl, _⟩ := ty_int Try.underlying3 (hp 2 _ p2 rfl rfl)
    exact ⟨⟨s, k, n⟩, rfl⟩
theorem ints_list {m : Nat} : ∀ es : List PV, (∀ x ∈ es, ∃ xs, x = Pv.elemOf 1 xs ∧ Ty Try.prog m 3 xs) → ∃ l : List Int, es = l.map I
  | [], _ => ⟨[], rfl⟩
  | e :: es, h => by
    obtain ⟨xs, rfl, ht⟩ := h e (by simp)
    obtain ⟨x, rfl, _⟩ := ty_int Try.underlying3 ht
    obtain ⟨l, rfl⟩ := ints_list es (fun y hy => h y (by simp [hy]))
    exact ⟨x :: l, rfl⟩
theorem ints_ty {m : Nat} {p : List PV} (h : Ty Try.prog m 23 p) : ∃ l : List Int, p = [ints l] := by
  obtain ⟨n, es, rfl, _, he⟩ := ty_slice Try.underlying23 (by rw [ce3]; decide) h
  rw [ce3] at he ⊢
  obtain ⟨l, rfl⟩ := ints_list es he
  exact ⟨l, rfl⟩
theorem cells_list {m : Nat} : ∀ es : List PV, (∀ x ∈ es, ∃ xs, x = Pv.elemOf 1 xs ∧ Ty Try.prog m 23 xs) → ∃ l : List (List Int), es = l.map ints
  | [], _ => ⟨[], rfl⟩
  | e :: es, h => by
    obtain ⟨xs, rfl, ht⟩ := h e (by simp)
    obtain ⟨x, rfl⟩ := ints_ty ht
    obtain ⟨l, rfl⟩ := cells_list es (fun y hy => h y (by simp [hy]))
    exact ⟨x :: l, rfl⟩
theorem cells_ty {m : Nat} {p : List PV} (h : Ty Try.prog m 25 p) : ∃ l : List (List Int), p = [cells l] := by
  obtain ⟨n, es, rfl, _, he⟩ := ty_slice Try.underlying25 (by rw [ce23]; decide) h
  rw [ce23] at he ⊢
  obtain ⟨l, rfl⟩ := cells_list es he
  exact ⟨l, rfl⟩
theorem vars_list {m : Nat} : ∀ es : List PV, (∀ x ∈ es, ∃ xs, x = Pv.elemOf 3 xs ∧ Ty Try.prog m 36 xs) → ∃ l : List VD, es = l.map VD.pv
  | [], _ => ⟨[], rfl⟩
  | e :: es, h => by
    obtain ⟨xs, rfl, ht⟩ := h e (by simp)
    obtain ⟨x, rfl⟩ := vd_ty ht
    obtain ⟨l, rfl⟩ := vars_list es (fun y hy => h y (by simp [hy]))
    exact ⟨x :: l, rfl⟩
theorem vars_ty {m : Nat} {p : List PV} (h : Ty Try.prog m 22 p) : ∃ l : List VD, Pv.valOf Try.prog 22 p = vars l := by
  obtain ⟨n, es, rfl, _, he⟩ := ty_slice Try.underlying22 (by rw [ce36]; decide) h
  rw [ce36] at he ⊢
  obtain ⟨l, rfl⟩ := vars_list es he
  refine ⟨l, ?_⟩
  unfold Pv.valOf
  rw [Try.underlying22]
  rfl
theorem st_ty {m : Nat} {p : List PV} (h : Ty Try.prog m 27 p) : ∃ s : St, Pv.valOf Try.prog 27 p = s.pv := by
  obtain ⟨m, parts, rfl, hl, hp⟩ := ty_struct Try.underlying27 h
  match parts, hl, hp with
  | [p0, p1, p2], _, hp =>
    obtain ⟨a, rfl⟩ := cells_ty (hp 0 _ p0 rfl rfl)
    obtain ⟨b, rfl⟩ := ints_ty (hp 1 _ p1 rfl rfl)
    obtain ⟨c, rfl⟩ := ints_ty (hp 2 _ p2 rfl rfl)
    refine ⟨⟨a, b, c⟩, ?_⟩
    unfold Pv.valOf
    rw [Try.underlying27]
    rfl
theorem fits_law (al : List PV) (h : Tys Try.prog [22, 27, 27] al) : Ok Try.prog X.G 4 al (.bool true) := by
  cases h with
  | cons _ _ _ p _ h hs =>
    cases hs with
    | cons _ _ _ p' _ h' hs =>
      cases hs with
      | cons _ _ _ p'' _ h'' hs =>
        cases hs
        obtain ⟨l, e⟩ := vars_ty h
        obtain ⟨a, e'⟩ := st_ty h'
        obtain ⟨b, e''⟩ := st_ty h''
        rw [e, e', e'']
        exact ok4 l a b
end Go.Proofs.Ytmkpdbofhpffaaa
