/- The machine of a new image fits it. -/
import Derived.Test.YtfhojpnofmlkdaaDoorCe
namespace Go.Proofs.YtfhojpnofmlkdaaDoor
open Go.Proofs.YtfhojpnofmlkdaaDoor.Pv Go.RowKit
set_option maxRecDepth 100000
set_option maxHeartbeats 4000000
set_option linter.unusedSimpArgs false
set_option linter.unusedVariables false
theorem cellsI : Tryd.prog.cellsOf 47 = 5 := by kernel_rfl
theorem cells3 : Tryd.prog.cellsOf 3 = 1 := by kernel_rfl
theorem ins_ty {fuel : Nat} {p : List PV} (h : Ty Tryd.prog fuel 47 p) : ∃ x : Ins, By x ∧ p = x.cs := by
  obtain ⟨m, parts, rfl, hl, hp⟩ := ty_struct Tryd.underlying47 h
  match parts, hl, hp with
  | [p0, p1, p2, p3, p4], _, hp =>
    obtain ⟨i0, rfl, h0, h0'⟩ := ty_int Tryd.underlying5 (hp 0 _ p0 rfl rfl)
    obtain ⟨i1, rfl, _⟩ := ty_int Tryd.underlying3 (hp 1 _ p1 rfl rfl)
    obtain ⟨i2, rfl, _⟩ := ty_int Tryd.underlying3 (hp 2 _ p2 rfl rfl)
    obtain ⟨i3, rfl, _⟩ := ty_int Tryd.underlying3 (hp 3 _ p3 rfl rfl)
    obtain ⟨i4, rfl, _⟩ := ty_int Tryd.underlying3 (hp 4 _ p4 rfl rfl)
    exact ⟨⟨i0, i1, i2, i3, i4⟩, ⟨h0, h0'⟩, rfl⟩
theorem list_ty {m : Nat} : ∀ es : List PV, (∀ x ∈ es, ∃ xs, x = Pv.elemOf 5 xs ∧ Ty Tryd.prog m 47 xs) → ∃ l : List Ins, WF l ∧ es = l.map Ins.pv
  | [], _ => ⟨[], fun x h => by simp at h, rfl⟩
  | e :: es, h => by
    obtain ⟨xs, rfl, ht⟩ := h e (by simp)
    obtain ⟨x, hx, rfl⟩ := ins_ty ht
    obtain ⟨l, hl, rfl⟩ := list_ty es (fun y hy => h y (by simp [hy]))
    refine ⟨x :: l, fun y hy => ?_, rfl⟩
    rcases List.mem_cons.1 hy with rfl | hy
    · exact hx
    · exact hl y hy
theorem img_ty {fuel : Nat} {p : List PV} (h : Ty Tryd.prog fuel 24 p) : ∃ (l : List Ins) (m s : Int), WF l ∧ Pv.valOf Tryd.prog 24 p = imgP l m s := by
  obtain ⟨m, parts, rfl, hl, hp⟩ := ty_struct Tryd.underlying24 h
  match parts, hl, hp with
  | [p0, p1, p2], _, hp =>
    obtain ⟨n, es, rfl, _, he⟩ := ty_slice Tryd.underlying22 (by rw [cellsI]; decide) (hp 0 _ p0 rfl rfl)
    obtain ⟨i1, rfl, _⟩ := ty_int Tryd.underlying3 (hp 1 _ p1 rfl rfl)
    obtain ⟨i2, rfl, _⟩ := ty_int Tryd.underlying3 (hp 2 _ p2 rfl rfl)
    rw [cellsI] at he
    obtain ⟨l, hw, rfl⟩ := list_ty es he
    refine ⟨l, i1, i2, hw, ?_⟩
    unfold Pv.valOf
    rw [Tryd.underlying24, cellsI]
    rfl
theorem nums_list {m : Nat} : ∀ es : List PV, (∀ x ∈ es, ∃ xs, x = Pv.elemOf 1 xs ∧ Ty Tryd.prog m 3 xs) → ∃ l : List Int, es = l.map J
  | [], _ => ⟨[], rfl⟩
  | e :: es, h => by
    obtain ⟨xs, rfl, ht⟩ := h e (by simp)
    obtain ⟨x, rfl, h1, h2⟩ := ty_int Tryd.underlying3 ht
    obtain ⟨l, rfl⟩ := nums_list es (fun y hy => h y (by simp [hy]))
    exact ⟨x :: l, rfl⟩
theorem nums_ty {m : Nat} {p : List PV} (h : Ty Tryd.prog m 26 p) : ∃ l : List Int, Pv.valOf Tryd.prog 26 p = nums l := by
  obtain ⟨n, es, rfl, _, he⟩ := ty_slice Tryd.underlying26 (by rw [cells3]; decide) h
  rw [cells3] at he ⊢
  obtain ⟨l, rfl⟩ := nums_list es he
  refine ⟨l, ?_⟩
  unfold Pv.valOf
  rw [Tryd.underlying26]
  rfl
theorem new_law (al : List PV) (h : Tys Tryd.prog [24, 26] al) : Ok Tryd.prog X.G 9 al (.bool true) := by
  cases h with
  | cons _ _ _ p _ h hs =>
    cases hs with
    | cons _ _ _ p' _ h' hs =>
      cases hs
      obtain ⟨l, m, s, hw, e⟩ := img_ty h
      obtain ⟨i, e'⟩ := nums_ty h'
      rw [e, e']
      exact ok9 l m s i hw
end Go.Proofs.YtfhojpnofmlkdaaDoor
