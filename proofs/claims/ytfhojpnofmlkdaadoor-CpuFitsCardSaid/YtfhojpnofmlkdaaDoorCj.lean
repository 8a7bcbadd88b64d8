/- Whether a machine fits: the law. -/
import Derived.Test.YtfhojpnofmlkdaaDoorCi
import Derived.Test.YtfhojpnofmlkdaaDoorCz
namespace Go.Proofs.YtfhojpnofmlkdaaDoor
open Go.Proofs.YtfhojpnofmlkdaaDoor.Pv Go.RowKit
set_option maxRecDepth 100000
set_option maxHeartbeats 4000000
set_option linter.unusedSimpArgs false
set_option linter.unusedVariables false
theorem cellsI : Tryd.prog.cellsOf 47 = 5 := by kernel_rfl
theorem cells3 : Tryd.prog.cellsOf 3 = 1 := by kernel_rfl
theorem ins_ty {fuel : Nat} {p : List PV} (h : TyZ Tryd.prog fuel 47 p) : ∃ x : Ins, By x ∧ p = x.cs := by
  obtain ⟨m, parts, rfl, hl, hp⟩ := ty_structZ Tryd.underlying47 h
  match parts, hl, hp with
  | [p0, p1, p2, p3, p4], _, hp =>
    obtain ⟨i0, rfl, h0, h0'⟩ := ty_intZ Tryd.underlying5 (hp 0 _ p0 rfl rfl)
    obtain ⟨i1, rfl, _⟩ := ty_intZ Tryd.underlying3 (hp 1 _ p1 rfl rfl)
    obtain ⟨i2, rfl, _⟩ := ty_intZ Tryd.underlying3 (hp 2 _ p2 rfl rfl)
    obtain ⟨i3, rfl, _⟩ := ty_intZ Tryd.underlying3 (hp 3 _ p3 rfl rfl)
    obtain ⟨i4, rfl, _⟩ := ty_intZ Tryd.underlying3 (hp 4 _ p4 rfl rfl)
    exact ⟨⟨i0, i1, i2, i3, i4⟩, ⟨h0, h0'⟩, rfl⟩
theorem list_ty {m : Nat} : ∀ es : List PV, (∀ x ∈ es, ∃ xs, x = Pv.elemOf 5 xs ∧ TyZ Tryd.prog m 47 xs) → ∃ l : List Ins, WF l ∧ es = l.map Ins.pv
  | [], _ => ⟨[], fun x h => by simp at h, rfl⟩
  | e :: es, h => by
    obtain ⟨xs, rfl, ht⟩ := h e (by simp)
    obtain ⟨x, hx, rfl⟩ := ins_ty ht
    obtain ⟨l, hl, rfl⟩ := list_ty es (fun y hy => h y (by simp [hy]))
    refine ⟨x :: l, fun y hy => ?_, rfl⟩
    rcases List.mem_cons.1 hy with rfl | hy
    · exact hx
    · exact hl y hy
theorem img_ty {fuel : Nat} {p : List PV} (h : TyZ Tryd.prog fuel 24 p) : ∃ (l : List Ins) (m s : Int), WF l ∧ Pv.valOf Tryd.prog 24 p = imgP l m s := by
  obtain ⟨m, parts, rfl, hl, hp⟩ := ty_structZ Tryd.underlying24 h
  match parts, hl, hp with
  | [p0, p1, p2], _, hp =>
    obtain ⟨n, es, rfl, _, he⟩ := ty_sliceZ Tryd.underlying22 (by rw [cellsI]; decide) (hp 0 _ p0 rfl rfl)
    obtain ⟨i1, rfl, _⟩ := ty_intZ Tryd.underlying3 (hp 1 _ p1 rfl rfl)
    obtain ⟨i2, rfl, _⟩ := ty_intZ Tryd.underlying3 (hp 2 _ p2 rfl rfl)
    rw [cellsI] at he
    obtain ⟨l, hw, rfl⟩ := list_ty es he
    refine ⟨l, i1, i2, hw, ?_⟩
    unfold Pv.valOf
    rw [Tryd.underlying24, cellsI]
    rfl
theorem nums_list {m : Nat} : ∀ es : List PV, (∀ x ∈ es, ∃ xs, x = Pv.elemOf 1 xs ∧ TyZ Tryd.prog m 3 xs) → ∃ l : List Int, es = l.map J
  | [], _ => ⟨[], rfl⟩
  | e :: es, h => by
    obtain ⟨xs, rfl, ht⟩ := h e (by simp)
    obtain ⟨x, rfl, h1, h2⟩ := ty_intZ Tryd.underlying3 ht
    obtain ⟨l, rfl⟩ := nums_list es (fun y hy => h y (by simp [hy]))
    exact ⟨x :: l, rfl⟩
theorem arr_ty {m : Nat} {p : List PV} (h : TyZ Tryd.prog m 25 p) : ∃ r : R16, p = [J r.x0, J r.x1, J r.x2, J r.x3, J r.x4, J r.x5, J r.x6, J r.x7, J r.x8, J r.x9, J r.x10, J r.x11, J r.x12, J r.x13, J r.x14, J r.x15] := by
  cases m with
  | zero => exact h.elim
  | succ m =>
    unfold TyZ at h
    rw [Tryd.underlying25] at h
    obtain ⟨parts, rfl, hl, hp⟩ := h
    match parts, hl, hp with
    | [p0, p1, p2, p3, p4, p5, p6, p7, p8, p9, p10, p11, p12, p13, p14, p15], _, hp =>
      obtain ⟨i0, rfl, _⟩ := ty_intZ Tryd.underlying3 (hp p0 (by simp))
      obtain ⟨i1, rfl, _⟩ := ty_intZ Tryd.underlying3 (hp p1 (by simp))
      obtain ⟨i2, rfl, _⟩ := ty_intZ Tryd.underlying3 (hp p2 (by simp))
      obtain ⟨i3, rfl, _⟩ := ty_intZ Tryd.underlying3 (hp p3 (by simp))
      obtain ⟨i4, rfl, _⟩ := ty_intZ Tryd.underlying3 (hp p4 (by simp))
      obtain ⟨i5, rfl, _⟩ := ty_intZ Tryd.underlying3 (hp p5 (by simp))
      obtain ⟨i6, rfl, _⟩ := ty_intZ Tryd.underlying3 (hp p6 (by simp))
      obtain ⟨i7, rfl, _⟩ := ty_intZ Tryd.underlying3 (hp p7 (by simp))
      obtain ⟨i8, rfl, _⟩ := ty_intZ Tryd.underlying3 (hp p8 (by simp))
      obtain ⟨i9, rfl, _⟩ := ty_intZ Tryd.underlying3 (hp p9 (by simp))
      obtain ⟨i10, rfl, _⟩ := ty_intZ Tryd.underlying3 (hp p10 (by simp))
      obtain ⟨i11, rfl, _⟩ := ty_intZ Tryd.underlying3 (hp p11 (by simp))
      obtain ⟨i12, rfl, _⟩ := ty_intZ Tryd.underlying3 (hp p12 (by simp))
      obtain ⟨i13, rfl, _⟩ := ty_intZ Tryd.underlying3 (hp p13 (by simp))
      obtain ⟨i14, rfl, _⟩ := ty_intZ Tryd.underlying3 (hp p14 (by simp))
      obtain ⟨i15, rfl, _⟩ := ty_intZ Tryd.underlying3 (hp p15 (by simp))
      exact ⟨⟨i0, i1, i2, i3, i4, i5, i6, i7, i8, i9, i10, i11, i12, i13, i14, i15⟩, rfl⟩
theorem bytes3_eq : Tryd.prog.bytesOf 3 = 8 := by kernel_rfl
theorem cells26 : Tryd.prog.cellsOf 26 = 1 := by kernel_rfl
theorem cells56 : Tryd.prog.cellsOf 56 = 2 := by kernel_rfl
theorem num1_ty {m : Nat} {p : List PV} (h : TyZ Tryd.prog m 26 p) : ∃ l : List Int, p = [nums l] ∧ l.length ≤ 17592186044416 := by
  obtain ⟨n, es, rfl, hb, he⟩ := ty_sliceZ Tryd.underlying26 (by rw [cells3]; decide) h
  rw [cells3] at he ⊢
  obtain ⟨l, rfl⟩ := nums_list es he
  refine ⟨l, rfl, ?_⟩
  have hb := hb.2
  rw [bytes3_eq, List.length_map] at hb
  have hr : reachBytes = 140737488351232 := by rfl
  omega
theorem stks_list {m : Nat} : ∀ es : List PV, (∀ x ∈ es, ∃ xs, x = Pv.elemOf 1 xs ∧ TyZ Tryd.prog m 26 xs) → ∃ l : List (List Int), es = l.map nums ∧ ∀ c ∈ l, c.length ≤ 17592186044416
  | [], _ => ⟨[], rfl, fun c h => by simp at h⟩
  | e :: es, h => by
    obtain ⟨xs, rfl, ht⟩ := h e (by simp)
    obtain ⟨x, rfl, hx⟩ := num1_ty ht
    obtain ⟨l, rfl, hl⟩ := stks_list es (fun y hy => h y (by simp [hy]))
    refine ⟨x :: l, rfl, fun y hy => ?_⟩
    rcases List.mem_cons.1 hy with rfl | hy
    · exact hx
    · exact hl y hy
theorem stks_ty {m : Nat} {p : List PV} (h : TyZ Tryd.prog m 27 p) : ∃ l : List (List Int), p = [stks l] ∧ ∀ c ∈ l, c.length ≤ 17592186044416 := by
  obtain ⟨n, es, rfl, _, he⟩ := ty_sliceZ Tryd.underlying27 (by rw [cells26]; decide) h
  rw [cells26] at he ⊢
  obtain ⟨l, rfl, hl⟩ := stks_list es he
  exact ⟨l, rfl, hl⟩
theorem ac_list {m : Nat} : ∀ es : List PV, (∀ x ∈ es, ∃ xs, x = Pv.elemOf 2 xs ∧ TyZ Tryd.prog m 56 xs) → ∃ l : List Ac, es = l.map Ac.pv
  | [], _ => ⟨[], rfl⟩
  | e :: es, h => by
    obtain ⟨xs, rfl, ht⟩ := h e (by simp)
    obtain ⟨n, parts, rfl, hl, hp⟩ := ty_structZ Tryd.underlying56 ht
    obtain ⟨l, rfl⟩ := ac_list es (fun y hy => h y (by simp [hy]))
    match parts, hl, hp with
    | [p0, p1], _, hp =>
      obtain ⟨i, rfl, _⟩ := ty_intZ Tryd.underlying3 (hp 0 _ p0 rfl rfl)
      obtain ⟨b, rfl⟩ := ty_boolZ Tryd.underlying4 (hp 1 _ p1 rfl rfl)
      exact ⟨⟨i, b⟩ :: l, rfl⟩
theorem acts_ty {m : Nat} {p : List PV} (h : TyZ Tryd.prog m 28 p) : ∃ l : List Ac, p = [acts l] := by
  obtain ⟨n, es, rfl, _, he⟩ := ty_sliceZ Tryd.underlying28 (by rw [cells56]; decide) h
  rw [cells56] at he ⊢
  obtain ⟨l, rfl⟩ := ac_list es he
  exact ⟨l, rfl⟩
theorem mc_ty {m : Nat} {p : List PV} (h : TyZ Tryd.prog m 30 p) : ∃ x : Mc, Pv.valOf Tryd.prog 30 p = x.pv ∧ (∀ c ∈ x.s, c.length ≤ 17592186044416) ∧ R64d x := by
  obtain ⟨m, parts, rfl, hl, hp⟩ := ty_structZ Tryd.underlying30 h
  match parts, hl, hp with
  | [p0, p1, p2, p3, p4, p5, p6, p7, p8, p9], _, hp =>
    obtain ⟨pc, rfl, _⟩ := ty_intZ Tryd.underlying3 (hp 0 _ p0 rfl rfl)
    obtain ⟨dir, rfl, d1, d2⟩ := ty_intZ Tryd.underlying3 (hp 1 _ p1 rfl rfl)
    obtain ⟨r, rfl⟩ := arr_ty (hp 2 _ p2 rfl rfl)
    obtain ⟨M, rfl, _⟩ := num1_ty (hp 3 _ p3 rfl rfl)
    obtain ⟨S, rfl, hS⟩ := stks_ty (hp 4 _ p4 rfl rfl)
    obtain ⟨c, rfl⟩ := acts_ty (hp 5 _ p5 rfl rfl)
    obtain ⟨fp, rfl, _⟩ := ty_intZ Tryd.underlying3 (hp 6 _ p6 rfl rfl)
    obtain ⟨sb, rfl, _⟩ := ty_intZ Tryd.underlying3 (hp 7 _ p7 rfl rfl)
    obtain ⟨i, rfl, _⟩ := num1_ty (hp 8 _ p8 rfl rfl)
    obtain ⟨o, rfl, _⟩ := num1_ty (hp 9 _ p9 rfl rfl)
    refine ⟨⟨pc, dir, r, M, S, c, fp, sb, i, o⟩, ?_, hS, ⟨d1, d2⟩⟩
    unfold Pv.valOf
    rw [Tryd.underlying30]
    rfl
theorem fits_law (al : List PV) (h : TysZ Tryd.prog [24, 30] al) : Ok Tryd.prog X.G 10 al (.bool true) := by
  cases h with
  | cons _ _ _ p _ h hs =>
    cases hs with
    | cons _ _ _ p' _ h' hs =>
      cases hs
      obtain ⟨l, m, s, hw, e⟩ := img_ty h
      obtain ⟨x, e', hS, hd⟩ := mc_ty h'
      rw [e, e']
      exact ok10 l m s x hw hS hd
end Go.Proofs.YtfhojpnofmlkdaaDoor
