/- Code that vanishes: the two loops, and the statement. -/
import Derived.Test.YtkfmhmkeikhdbaaDoorKv
import Derived.Test.YtkfmhmkeikhdbaaDoorRh
import Derived.Test.YtkfmhmkeikhdbaaDoorKi
import Derived.Test.YtkfmhmkeikhdbaaDoorRi
import Derived.Test.YtkfmhmkeikhdbaaDoorKl
namespace Go.Proofs.YtkfmhmkeikhdbaaDoor
open Go.Proofs.YtkfmhmkeikhdbaaDoor.Pv Go.RowKit
set_option maxRecDepth 100000
set_option maxHeartbeats 8000000
set_option linter.unusedSimpArgs false
set_option linter.unusedVariables false
theorem flat_pv : ∀ l : List Ins, Pv.flat (l.map Ins.pv) = some (l.flatMap Ins.cs)
  | [] => rfl
  | x :: l => by
    have ih := flat_pv l
    show Pv.flat (x.pv :: l.map Ins.pv) = some (x.cs ++ l.flatMap Ins.cs)
    simp only [Pv.flat, ih, ins_cells]
theorem tcells_pv (hp : List Pv.Box) (l : List Ins) : Pv.tcells hp 5 (code l) = some (l.length, l.flatMap Ins.cs) := by
  unfold code Pv.tcells
  simp only [flat_pv, if_true, Option.map_some, List.length_map]
theorem atoms_pv (l : List Ins) : (l.flatMap Ins.cs).all PV.atom = true := by
  rw [List.all_eq_true]
  intro c hc
  obtain ⟨x, _, hx⟩ := List.mem_flatMap.1 hc
  simp only [Ins.cs, List.mem_cons, List.not_mem_nil, or_false] at hx
  rcases hx with rfl | rfl | rfl | rfl | rfl <;> rfl
/-- a whole list behind a slice -/
theorem app_sl {hp : List Pv.Box} {id : Nat} {o B : List Ins} (hi : hp[id]? = some ⟨5, o.flatMap Ins.cs, 0⟩) (hB : B ≠ []) (hn : o.length + B.length ≤ 1000000) :
    pappend Tryd.prog hp hp.length 28 28 (.sl id 5 0 o.length) (code B) = some (.sl hp.length 5 0 (o ++ B).length, hp.set id ⟨5, o.flatMap Ins.cs, 2⟩ ++ [⟨5, (o ++ B).flatMap Ins.cs, 0⟩]) := by
  have hs : ∀ a : Ins, a.cs.length = 5 := fun _ => rfl
  have h0 : ¬ B.length = 0 := fun h => hB (List.length_eq_zero_iff.1 h)
  unfold pappend
  rw [Tryd.underlying28]
  simp only [sz23, z23]
  rw [if_pos ⟨rfl, by decide⟩, tcells_pv]
  simp only
  rw [if_pos (atoms_pv B), if_neg h0]
  simp only [hi]
  rw [if_pos ⟨trivial, trivial, trivial, by rw [flatMap_len hs]; exact Nat.le_refl _, bytes_ok by23 (by omega)⟩]
  rw [List.take_of_length_le (by rw [flatMap_len hs]; exact Nat.le_refl _), List.length_append, List.flatMap_append]
theorem app_sl0 {hp : List Pv.Box} {id i n : Nat} : pappend Tryd.prog hp id 28 28 (.sl i 5 0 n) (code []) = some (.sl i 5 0 n, hp) := by
  unfold pappend
  rw [Tryd.underlying28]
  simp only [sz23, z23]
  rw [if_pos ⟨rfl, by decide⟩, tcells_pv]
  rfl
theorem app_nil {hp : List Pv.Box} {B : List Ins} (hB : B ≠ []) (hn : B.length ≤ 1000000) :
    pappend Tryd.prog hp hp.length 28 28 .nils (code B) = some (.sl hp.length 5 0 B.length, hp ++ [⟨5, B.flatMap Ins.cs, 0⟩]) := by
  have h0 : ¬ B.length = 0 := fun h => hB (List.length_eq_zero_iff.1 h)
  unfold pappend pappF
  rw [Tryd.underlying28]
  simp only [sz23, z23]
  rw [if_pos ⟨rfl, by decide⟩, tcells_pv]
  simp only
  rw [if_pos (atoms_pv B), if_neg h0, if_pos (bytes_ok by23 (by omega)), if_pos ⟨rfl, by decide⟩, if_pos (atoms_pv B)]
  rfl
theorem app_emp {hp : List Pv.Box} {B : List Ins} (hB : B ≠ []) (hn : B.length ≤ 1000000) :
    pappend Tryd.prog hp hp.length 28 28 .emp (code B) = some (.sl hp.length 5 0 B.length, hp ++ [⟨5, B.flatMap Ins.cs, 0⟩]) := by
  have h0 : ¬ B.length = 0 := fun h => hB (List.length_eq_zero_iff.1 h)
  unfold pappend pappF
  rw [Tryd.underlying28]
  simp only [sz23, z23]
  rw [if_pos ⟨rfl, by decide⟩, tcells_pv]
  simp only
  rw [if_pos (atoms_pv B), if_neg h0, if_pos (bytes_ok by23 (by omega)), if_pos ⟨rfl, by decide⟩, if_pos (atoms_pv B)]
  rfl
/-- an instruction that its inverse undoes -/
def gd (x : Ins) : Bool := vld x && can x (inI x)
def st8 (l C : List Ins) (m s at0 i : Int) (o : List Ins) : PS := ⟨⟨154, [(8, .int .i64 i), (1, code C), (7, .sl 1 5 0 (List.length o)), (3, .ptr 0 0), (2, .int .u8 at0)]⟩, [⟨3, [code l, .int .i64 m, .int .i64 s], 0⟩, ⟨5, List.flatMap Ins.cs o, 0⟩]⟩
theorem app8 (l o : List Ins) (m s : Int) (z : Ins) (ho : o.length ≤ 1000000) : pappend Tryd.prog [⟨3, [code l, I m, I s], 0⟩, ⟨5, List.flatMap Ins.cs o, 0⟩, ⟨5, z.cs, 0⟩] 3 28 28 (.sl 1 5 0 o.length) (.sl 2 5 0 1) = some (.sl 3 5 0 (List.length (o ++ [z])), [⟨3, [code l, I m, I s], 0⟩, ⟨5, List.flatMap Ins.cs o, 2⟩, ⟨5, z.cs, 0⟩, ⟨5, List.flatMap Ins.cs (o ++ [z]), 0⟩]) := by
  have hs : ∀ a : Ins, a.cs.length = 5 := fun _ => rfl
  have := pappend_one (P := Tryd.prog) (hp := [⟨3, [code l, I m, I s], 0⟩, ⟨5, List.flatMap Ins.cs o, 0⟩, ⟨5, z.cs, 0⟩]) (T := 28) (X := 28) (id := 1) (j := 2) (len := o.length) (xs := z.cs) Tryd.underlying28 Tryd.underlying28 sz23 z23 rfl (by decide) rfl rfl rfl rfl (by rw [flatMap_len hs]; exact Nat.le_refl _) (bytes_ok by23 (by omega))
  refine Eq.trans this ?_
  rw [List.take_of_length_le (by rw [flatMap_len hs]; exact Nat.le_refl _)]
  simp
theorem lp8 (l C : List Ins) (m s at0 : Int) (hw : WF C) (hn : C.length ≤ 1000) (h13 h11 h12 : List PV → Option PV) (hT : TabOk Tryd.prog X.G [(13, h13), (11, h11), (12, h12)])
    (e13 : ∀ x : Ins, By x → h13 [x.pv] = some (.bool (vld x))) (e11 : ∀ x : Ins, h11 [x.pv] = some (inI x).pv) (e12 : ∀ x y : Ins, By x → h12 [x.pv, y.pv] = some (.bool (can x y))) :
    ∀ (r : Nat) (o : List Ins) (i : Int), r ≤ C.length → o.length ≤ C.length + (C.length - r) → i = (r : Int) - 1 →
      ((∀ (j : Nat) x, j < r → C[j]? = some x → gd x = true) → LoopOk Tryd.prog X.G 0 (lpB Tryd.f8 5) (st8 l C m s at0 i o) (.exit 0) ⟨⟨154, [(7, .sl 1 5 0 (List.length (o ++ ((C.take r).map inI).reverse))), (3, .ptr 0 0), (2, .int .u8 at0)]⟩, [⟨3, [code l, .int .i64 m, .int .i64 s], 0⟩, ⟨5, List.flatMap Ins.cs (o ++ ((C.take r).map inI).reverse), 0⟩]⟩) ∧
      ((∃ (j : Nat) (x : Ins), j < r ∧ C[j]? = some x ∧ gd x = false) → LoopOk Tryd.prog X.G 0 (lpB Tryd.f8 5) (st8 l C m s at0 i o) .ret ⟨⟨154, [(6, .bool true)]⟩, []⟩) := by
  intro r
  induction r with
  | zero =>
    intro o i hr hol hi
    refine ⟨fun _ => ?_, fun ⟨j, x, hj, _⟩ => absurd hj (by omega)⟩
    rw [List.take_zero, List.map_nil, List.reverse_nil, List.append_nil]
    refine round_ok env.mixed (tab_orc hT tn') (by kernel_rfl) (r8a h13 h11 h12 l C o m s at0 i 0 ⟨0, 0, 0, 0, 0⟩ ⟨0, 0, 0, 0, 0⟩ false false) ?_
    simp only [Holds, Pv.Next]
    refine ⟨fun h => absurd (of_decide_eq_true h) (by omega), fun _ => ⟨trivial, ⟨trivial, trivial, ⟨VW.sl rfl rfl rfl rfl, VW.ptr rfl rfl, VW.int rfl, trivial⟩, ⟨BW.cells (.cons (VW.lst rfl rfl) (.cons (VW.int rfl) (.cons (VW.int rfl) .nil))), BW.flat rfl (fun c hc => nb_cs hc), trivial⟩⟩, trivial, ?_⟩⟩
    first | exact trivial | rfl
  | succ r ih =>
    intro o i hr hol hi
    obtain ⟨x, hx⟩ : ∃ x, C[r]? = some x := ⟨_, List.getElem?_eq_getElem (by omega)⟩
    have hx' : By x := hw x (List.mem_of_getElem? hx)
    have hir : i = ((r : Nat) : Int) := by omega
    have px := px_code hx
    rw [← hir] at px
    have hi2 : IntKind.i64.wrap (i - 1) = (r : Int) - 1 := by rw [w64 (by omega) (by omega)]; omega
    have c13 : (tab X.sh [(13, h13), (11, h11), (12, h12)] []).iso 13 [x.pv] = some (.bool (vld x)) := e13 x hx'
    have c11 : (tab X.sh [(13, h13), (11, h11), (12, h12)] []).iso 11 [x.pv] = some (inI x).pv := e11 x
    have c12 : (tab X.sh [(13, h13), (11, h11), (12, h12)] []).iso 12 [x.pv, (inI x).pv] = some (.bool (can x (inI x))) := e12 x (inI x) hx'
    have ap := app8 l o m s (inI x) (by omega)
    have et : o ++ ((C.take (r + 1)).map inI).reverse = (o ++ [inI x]) ++ ((C.take r).map inI).reverse := by
      rw [List.take_add_one, hx]
      simp
    obtain ⟨n1, n2⟩ := ih (o ++ [inI x]) ((r : Int) - 1) (by omega) (by rw [List.length_append]; simp; omega) rfl
    have good : ∀ (e : PE) (fin : PS), gd x = true → LoopOk Tryd.prog X.G 0 (lpB Tryd.f8 5) (st8 l C m s at0 ((r : Int) - 1) (o ++ [inI x])) e fin → LoopOk Tryd.prog X.G 0 (lpB Tryd.f8 5) (st8 l C m s at0 i o) e fin := fun e fin hg nx => by
      unfold gd at hg
      rw [Bool.and_eq_true] at hg
      rw [hg.1] at c13
      rw [hg.2] at c12
      refine round_ok env.mixed (tab_orc hT tn') (by kernel_rfl) (r8a h13 h11 h12 l C o m s at0 i ((r : Int) - 1) x (inI x) true true) ?_
      simp only [Holds, Pv.Next]
      refine ⟨fun _ => ⟨congrArg (Option.map fun v => (v, _)) px, fun _ => ⟨pcallD_iso rfl rfl c13, congrArg (Option.map fun v => (v, _)) px, congrArg (Option.map fun v => (v, _)) px, pcallD_iso rfl rfl c11, fun _ => ⟨pcallD_iso rfl rfl c12, congrArg (Option.map fun v => (v, _)) px, pcallv_iso rfl rfl c11, ap, ⟨trivial, trivial, ⟨VW.int hi2, VW.lst rfl rfl, VW.sl rfl rfl rfl rfl, VW.ptr rfl rfl, VW.int rfl, trivial⟩, ⟨BW.cells (.cons (VW.lst rfl rfl) (.cons (VW.int rfl) (.cons (VW.int rfl) .nil))), BW.flat rfl (fun c hc => nb_cs hc), trivial⟩⟩, nx⟩, fun h => absurd h (by decide)⟩, fun h => absurd h (by decide)⟩, fun h => absurd (of_decide_eq_false h) (by omega)⟩
    have bad : gd x = false → LoopOk Tryd.prog X.G 0 (lpB Tryd.f8 5) (st8 l C m s at0 i o) .ret ⟨⟨154, [(6, .bool true)]⟩, []⟩ := fun hg => by
      unfold gd at hg
      cases hv : vld x with
      | false =>
        rw [hv] at c13
        refine round_ok env.mixed (tab_orc hT tn') (by kernel_rfl) (r8a h13 h11 h12 l C o m s at0 i ((r : Int) - 1) x (inI x) false false) ?_
        simp only [Holds, Pv.Next]
        refine ⟨fun _ => ⟨congrArg (Option.map fun v => (v, _)) px, fun h => absurd h (by decide), fun _ => ⟨pcallD_iso rfl rfl c13, trivial, ⟨trivial, trivial, ⟨VW.bool rfl, trivial⟩, trivial⟩, trivial, ?_⟩⟩, fun h => absurd (of_decide_eq_false h) (by omega)⟩
        first | exact trivial | rfl
      | true =>
        rw [hv, Bool.true_and] at hg
        rw [hv] at c13
        rw [hg] at c12
        refine round_ok env.mixed (tab_orc hT tn') (by kernel_rfl) (r8a h13 h11 h12 l C o m s at0 i ((r : Int) - 1) x (inI x) true false) ?_
        simp only [Holds, Pv.Next]
        refine ⟨fun _ => ⟨congrArg (Option.map fun v => (v, _)) px, fun _ => ⟨pcallD_iso rfl rfl c13, congrArg (Option.map fun v => (v, _)) px, congrArg (Option.map fun v => (v, _)) px, pcallD_iso rfl rfl c11, fun h => absurd h (by decide), fun _ => ⟨pcallD_iso rfl rfl c12, trivial, ⟨trivial, trivial, ⟨VW.bool rfl, trivial⟩, trivial⟩, trivial, ?_⟩⟩, fun h => absurd h (by decide)⟩, fun h => absurd (of_decide_eq_false h) (by omega)⟩
        first | exact trivial | rfl
    refine ⟨fun hall => ?_, fun ⟨j, y, hj, hy, hb⟩ => ?_⟩
    · rw [et]
      exact good _ _ (hall r x (by omega) hx) (n1 fun j y hj hy => hall j y (by omega) hy)
    · cases hg : gd x with
      | false => exact bad hg
      | true =>
        refine good _ _ hg (n2 ⟨j, y, ?_, hy, hb⟩)
        rcases Nat.lt_or_ge j r with h | h
        · exact h
        · have : j = r := by omega
          subst this
          rw [hx] at hy
          cases hy
          rw [hg] at hb
          cases hb
theorem app_one {hp : List Pv.Box} {id j : Nat} {o : List Ins} {y : Ins} (hi : hp[id]? = some ⟨5, o.flatMap Ins.cs, 0⟩) (hj : hp[j]? = some ⟨5, y.cs, 0⟩) (ho : o.length ≤ 1000000) :
    pappend Tryd.prog hp hp.length 28 28 (.sl id 5 0 o.length) (.sl j 5 0 1) = some (.sl hp.length 5 0 (o ++ [y]).length, hp.set id ⟨5, o.flatMap Ins.cs, 2⟩ ++ [⟨5, (o ++ [y]).flatMap Ins.cs, 0⟩]) := by
  have hs : ∀ a : Ins, a.cs.length = 5 := fun _ => rfl
  have := pappend_one (P := Tryd.prog) (hp := hp) (T := 28) (X := 28) (id := id) (j := j) (len := o.length) (xs := y.cs) Tryd.underlying28 Tryd.underlying28 sz23 z23 rfl (by decide) hi hj rfl rfl (by rw [flatMap_len hs]; exact Nat.le_refl _) (bytes_ok by23 (by omega))
  refine Eq.trans this ?_
  rw [List.take_of_length_le (by rw [flatMap_len hs]; exact Nat.le_refl _)]
  simp
/-- the code so far -/
def ppY (l B : List Ins) (k : Nat) : Nat → List Ins
  | 0 => []
  | i + 1 => (if i = k then ppY l B k i ++ B else ppY l B k i) ++ [fI k B.length (l.getD i ⟨0, 0, 0, 0, 0⟩)]
theorem pp_next {l B : List Ins} {k i : Nat} {x : Ins} (hx : l[i]? = some x) : ppY l B k (i + 1) = (if i = k then ppY l B k i ++ B else ppY l B k i) ++ [fI k B.length x] := by
  show _ ++ [fI k B.length (l.getD i ⟨0, 0, 0, 0, 0⟩)] = _
  rw [List.getD_eq_getElem?_getD, hx]
  rfl
theorem pp_len (l B : List Ins) (k : Nat) : ∀ i, (ppY l B k i).length ≤ i + B.length ∧ (i ≤ k → (ppY l B k i).length ≤ i)
  | 0 => ⟨by simp [ppY], fun _ => by simp [ppY]⟩
  | i + 1 => by
    obtain ⟨h1, h2⟩ := pp_len l B k i
    unfold ppY
    split
    · rename_i e
      have := h2 (by omega)
      refine ⟨by simp only [List.length_append, List.length_cons, List.length_nil]; omega, fun h => by omega⟩
    · refine ⟨by simp only [List.length_append, List.length_cons, List.length_nil]; omega, fun h => ?_⟩
      have := h2 (by omega)
      simp only [List.length_append, List.length_cons, List.length_nil]; omega
theorem pp_eq (l B : List Ins) (k : Nat) : ∀ i, i ≤ l.length → ppY l B k i = if i ≤ k then (l.take i).map (fI k B.length) else (l.take k).map (fI k B.length) ++ B ++ ((l.take i).drop k).map (fI k B.length)
  | 0, _ => by simp [ppY]
  | i + 1, h => by
    obtain ⟨x, hx⟩ : ∃ x, l[i]? = some x := ⟨_, List.getElem?_eq_getElem (by omega)⟩
    have ih := pp_eq l B k i (by omega)
    have e1 : l.take (i + 1) = l.take i ++ [x] := by rw [List.take_add_one, hx]; rfl
    rw [pp_next hx, ih]
    rcases Nat.lt_trichotomy i k with hk | hk | hk
    · rw [if_neg (by omega), if_pos (by omega), if_pos (by omega), e1]; simp
    · subst hk
      rw [if_pos rfl, if_pos (Nat.le_refl _), if_neg (by omega), e1, List.drop_append_of_le_length (by rw [List.length_take]; omega), List.drop_eq_nil_of_le (by rw [List.length_take]; omega)]
      simp
    · rw [if_neg (by omega), if_neg (by omega), if_neg (by omega), e1, List.drop_append_of_le_length (by rw [List.length_take]; omega)]
      simp
theorem pp_all {l B : List Ins} {k : Nat} (hk : k ≤ l.length) : (if k = l.length then ppY l B k l.length ++ B else ppY l B k l.length) = putL l B k := by
  rw [pp_eq l B k _ (Nat.le_refl _)]
  unfold putL
  split
  · rename_i e
    rw [if_pos (by omega), e, List.take_of_length_le (Nat.le_refl _), List.drop_eq_nil_of_le (Nat.le_refl _)]
    simp
  · rw [if_neg (by omega), List.take_of_length_le (Nat.le_refl _)]
def st8b (l B : List Ins) (m s : Int) (k i : Nat) (Y : List Ins) : PS := ⟨⟨154, [(84, .int .i64 ((i : Nat) : Int)), (10, .ptr 1 0), (7, code B), (9, .int .i64 (k : Int)), (82, code l), (3, .ptr 0 0), (83, .int .i64 (l.length : Int))]⟩, [⟨3, [code l, .int .i64 m, .int .i64 s], 0⟩, ⟨3, [.sl 2 5 0 (List.length Y), .int .i64 m, .int .i64 s], 0⟩, ⟨5, List.flatMap Ins.cs Y, 0⟩]⟩
def st8n (l B : List Ins) (m s : Int) (k i : Nat) : PS := ⟨⟨154, [(84, .int .i64 ((i : Nat) : Int)), (10, .ptr 1 0), (7, code B), (9, .int .i64 (k : Int)), (82, code l), (3, .ptr 0 0), (83, .int .i64 (l.length : Int))]⟩, [⟨3, [code l, .int .i64 m, .int .i64 s], 0⟩, ⟨3, [.nils, .int .i64 m, .int .i64 s], 0⟩]⟩
def en8b (l B : List Ins) (m s : Int) (k : Nat) (Y : List Ins) : PS := ⟨⟨154, [(10, .ptr 1 0), (7, code B), (9, .int .i64 (k : Int)), (3, .ptr 0 0)]⟩, [⟨3, [code l, .int .i64 m, .int .i64 s], 0⟩, ⟨3, [.sl 2 5 0 (List.length Y), .int .i64 m, .int .i64 s], 0⟩, ⟨5, List.flatMap Ins.cs Y, 0⟩]⟩
theorem fI_cases {k m : Nat} {x : Ins} : (tb x.k = true → tgt x ≥ k → fI k m x = rtI x (tgt x + m)) ∧ (tb x.k = true → ¬ tgt x ≥ k → fI k m x = x) ∧ (tb x.k = false → fI k m x = x) := by
  refine ⟨fun _ h => ?_, fun _ h => ?_, fun h => rtI_no _ _ h⟩
  · unfold fI sfI; rw [if_pos h]
  · unfold fI sfI; rw [if_neg h]; exact rtI_own x
theorem lp8b (l B : List Ins) (m s : Int) (k : Nat) (hB : B ≠ []) (hBn : B.length ≤ 1000) (hd : Wd l) (hw : WF l) (hn : l.length ≤ 1000) (hk : k ≤ 1000) (h27 h28 : List PV → Option PV) (hT : TabOk Tryd.prog X.G [(27, h27), (28, h28)])
    (e27 : ∀ x : Ins, By x → h27 [x.pv] = some (.tup [.int .i64 (tgt x), .bool (tb x.k)])) (e28 : ∀ (x : Ins) (j : Int), By x → h28 [x.pv, .int .i64 j] = some (rtI x j).pv) :
    ∀ r i, i + r = l.length → LoopOk Tryd.prog X.G 0 (lpB Tryd.f8 13) (st8b l B m s k i (ppY l B k i)) (.exit 2) (en8b l B m s k (ppY l B k l.length)) := by
  intro r
  induction r with
  | zero =>
    intro i hi
    obtain rfl : i = l.length := by omega
    refine round_ok env.mixed (tab_orc hT tn') (by kernel_rfl) (r8b h27 h28 l B (ppY l B k l.length) m s 0 l.length k ⟨0, 0, 0, 0, 0⟩ ⟨0, 0, 0, 0, 0⟩ false) ?_
    simp only [Holds, Pv.Next]
    refine ⟨fun h => absurd (of_decide_eq_true h) (by omega), fun _ => ⟨trivial, ⟨trivial, trivial, ⟨VW.ptr rfl rfl, VW.lst rfl rfl, VW.int rfl, VW.ptr rfl rfl, trivial⟩, ⟨BW.cells (.cons (VW.lst rfl rfl) (.cons (VW.int rfl) (.cons (VW.int rfl) .nil))), BW.cells (.cons (VW.sl rfl rfl rfl rfl) (.cons (VW.int rfl) (.cons (VW.int rfl) .nil))), BW.flat rfl (fun c hc => nb_cs hc), trivial⟩⟩, trivial, ?_⟩⟩
    first | exact trivial | rfl
  | succ r ih =>
    intro i hi
    obtain ⟨x, hx⟩ : ∃ x, l[i]? = some x := ⟨_, List.getElem?_eq_getElem (by omega)⟩
    have hx' : By x := hw x (List.mem_of_getElem? hx)
    have px := px_code hx
    have nx := ih (i + 1) (by omega)
    rw [pp_next hx] at nx
    have hpl := (pp_len l B k i).1
    have hpl0 := hpl
    have c27 : (tab X.sh [(27, h27), (28, h28)] []).iso 27 [x.pv] = some (.tup [.int .i64 (tgt x), .bool (tb x.k)]) := e27 x hx'
    have nE : ∀ y : Ins, fI k B.length x = y → i = k → LoopOk Tryd.prog X.G 0 (lpB Tryd.f8 13) (st8b l B m s k (i + 1) (ppY l B k i ++ B ++ [y])) (.exit 2) (en8b l B m s k (ppY l B k l.length)) := fun y hy e => by
      rw [if_pos e] at nx
      rw [← hy]
      skip
      exact nx
    have nN : ∀ y : Ins, fI k B.length x = y → ¬ i = k → LoopOk Tryd.prog X.G 0 (lpB Tryd.f8 13) (st8b l B m s k (i + 1) (ppY l B k i ++ [y])) (.exit 2) (en8b l B m s k (ppY l B k l.length)) := fun y hy e => by
      rw [if_neg e] at nx
      rw [← hy]
      exact nx
    obtain ⟨f1, f2, f3⟩ := fI_cases (k := k) (m := B.length) (x := x)
    cases ht : tb x.k with
    | true =>
      rw [ht] at c27
      have hti : 0 ≤ tgt x ∧ tgt x < l.length := hd.tgt_in hx ht
      have hwr : IntKind.i64.wrap (tgt x + ((List.map Ins.pv B).length : Int)) = tgt x + ((B.length : Int)) := by rw [List.length_map]; exact w64 (by omega) (by omega)
      obtain ⟨z, hz⟩ : ∃ z, rtI x (tgt x + ((B.length : Int))) = z := ⟨_, rfl⟩
      have c28 : (tab X.sh [(27, h27), (28, h28)] []).iso 28 [x.pv, .int .i64 (IntKind.i64.wrap (tgt x + ((List.map Ins.pv B).length : Int)))] = some z.pv := by
        rw [hwr, ← hz]; exact e28 x _ hx'
      refine round_ok env.mixed (tab_orc hT tn') (by kernel_rfl) (r8b h27 h28 l B (ppY l B k i) m s (tgt x) i k x z true) ?_
      simp only [Holds, Pv.Next]
      exact ⟨fun _ => ⟨congrArg (Option.map fun v => (v, _)) px, fun _ => ⟨pcallv_iso rfl rfl c27, fun hge => ⟨pcallv_iso rfl rfl c28, fun e => ⟨(app_sl (hp := [⟨3, [code l, I m, I s], 0⟩, ⟨3, [.sl 2 5 0 (List.length (ppY l B k i)), I m, I s], 0⟩, ⟨5, List.flatMap Ins.cs (ppY l B k i), 0⟩, ⟨5, Ins.cs z, 0⟩]) (id := 2) rfl hB (by omega)), (app_one (hp := [⟨3, [code l, I m, I s], 0⟩, ⟨3, [.sl 4 5 0 (List.length (ppY l B k i ++ B)), I m, I s], 0⟩, ⟨5, List.flatMap Ins.cs (ppY l B k i), 2⟩, ⟨5, Ins.cs z, 0⟩, ⟨5, List.flatMap Ins.cs (ppY l B k i ++ B), 0⟩, ⟨5, Ins.cs z, 0⟩]) (id := 4) (j := 5) (o := ppY l B k i ++ B) (y := z) rfl rfl (by rw [List.length_append]; omega)), ⟨trivial, trivial, ⟨VW.int (wsucc (by omega)), VW.ptr rfl rfl, VW.lst rfl rfl, VW.int rfl, VW.lst rfl rfl, VW.ptr rfl rfl, VW.int rfl, trivial⟩, ⟨BW.cells (.cons (VW.lst rfl rfl) (.cons (VW.int rfl) (.cons (VW.int rfl) .nil))), BW.cells (.cons (VW.sl rfl rfl rfl rfl) (.cons (VW.int rfl) (.cons (VW.int rfl) .nil))), BW.flat rfl (fun c hc => nb_cs hc), trivial⟩⟩, nE z ((f1 ht (of_decide_eq_true hge)).trans hz) (by have := beq_iff_eq.1 e; omega)⟩, fun ne => ⟨(app_one (hp := [⟨3, [code l, I m, I s], 0⟩, ⟨3, [.sl 2 5 0 (List.length (ppY l B k i)), I m, I s], 0⟩, ⟨5, List.flatMap Ins.cs (ppY l B k i), 0⟩, ⟨5, Ins.cs z, 0⟩, ⟨5, Ins.cs z, 0⟩]) (id := 2) (j := 4) (o := ppY l B k i) (y := z) rfl rfl (by omega)), ⟨trivial, trivial, ⟨VW.int (wsucc (by omega)), VW.ptr rfl rfl, VW.lst rfl rfl, VW.int rfl, VW.lst rfl rfl, VW.ptr rfl rfl, VW.int rfl, trivial⟩, ⟨BW.cells (.cons (VW.lst rfl rfl) (.cons (VW.int rfl) (.cons (VW.int rfl) .nil))), BW.cells (.cons (VW.sl rfl rfl rfl rfl) (.cons (VW.int rfl) (.cons (VW.int rfl) .nil))), BW.flat rfl (fun c hc => nb_cs hc), trivial⟩⟩, nN z ((f1 ht (of_decide_eq_true hge)).trans hz) (by have := beq_eq_false_iff_ne.1 ne; omega)⟩⟩, fun hlt => ⟨fun e => ⟨(app_sl (hp := [⟨3, [code l, I m, I s], 0⟩, ⟨3, [.sl 2 5 0 (List.length (ppY l B k i)), I m, I s], 0⟩, ⟨5, List.flatMap Ins.cs (ppY l B k i), 0⟩, ⟨5, Ins.cs x, 0⟩]) (id := 2) rfl hB (by omega)), (app_one (hp := [⟨3, [code l, I m, I s], 0⟩, ⟨3, [.sl 4 5 0 (List.length (ppY l B k i ++ B)), I m, I s], 0⟩, ⟨5, List.flatMap Ins.cs (ppY l B k i), 2⟩, ⟨5, Ins.cs x, 0⟩, ⟨5, List.flatMap Ins.cs (ppY l B k i ++ B), 0⟩, ⟨5, Ins.cs x, 0⟩]) (id := 4) (j := 5) (o := ppY l B k i ++ B) (y := x) rfl rfl (by rw [List.length_append]; omega)), ⟨trivial, trivial, ⟨VW.int (wsucc (by omega)), VW.ptr rfl rfl, VW.lst rfl rfl, VW.int rfl, VW.lst rfl rfl, VW.ptr rfl rfl, VW.int rfl, trivial⟩, ⟨BW.cells (.cons (VW.lst rfl rfl) (.cons (VW.int rfl) (.cons (VW.int rfl) .nil))), BW.cells (.cons (VW.sl rfl rfl rfl rfl) (.cons (VW.int rfl) (.cons (VW.int rfl) .nil))), BW.flat rfl (fun c hc => nb_cs hc), trivial⟩⟩, nE x (f2 ht (of_decide_eq_false hlt)) (by have := beq_iff_eq.1 e; omega)⟩, fun ne => ⟨(app_one (hp := [⟨3, [code l, I m, I s], 0⟩, ⟨3, [.sl 2 5 0 (List.length (ppY l B k i)), I m, I s], 0⟩, ⟨5, List.flatMap Ins.cs (ppY l B k i), 0⟩, ⟨5, Ins.cs x, 0⟩, ⟨5, Ins.cs x, 0⟩]) (id := 2) (j := 4) (o := ppY l B k i) (y := x) rfl rfl (by omega)), ⟨trivial, trivial, ⟨VW.int (wsucc (by omega)), VW.ptr rfl rfl, VW.lst rfl rfl, VW.int rfl, VW.lst rfl rfl, VW.ptr rfl rfl, VW.int rfl, trivial⟩, ⟨BW.cells (.cons (VW.lst rfl rfl) (.cons (VW.int rfl) (.cons (VW.int rfl) .nil))), BW.cells (.cons (VW.sl rfl rfl rfl rfl) (.cons (VW.int rfl) (.cons (VW.int rfl) .nil))), BW.flat rfl (fun c hc => nb_cs hc), trivial⟩⟩, nN x (f2 ht (of_decide_eq_false hlt)) (by have := beq_eq_false_iff_ne.1 ne; omega)⟩⟩⟩, fun h => absurd h (by decide)⟩, fun h => absurd (of_decide_eq_false h) (by omega)⟩
    | false =>
      rw [ht] at c27
      refine round_ok env.mixed (tab_orc hT tn') (by kernel_rfl) (r8b h27 h28 l B (ppY l B k i) m s (tgt x) i k x x false) ?_
      simp only [Holds, Pv.Next]
      exact ⟨fun _ => ⟨congrArg (Option.map fun v => (v, _)) px, fun h => absurd h (by decide), fun _ => ⟨pcallv_iso rfl rfl c27, fun e => ⟨(app_sl (hp := [⟨3, [code l, I m, I s], 0⟩, ⟨3, [.sl 2 5 0 (List.length (ppY l B k i)), I m, I s], 0⟩, ⟨5, List.flatMap Ins.cs (ppY l B k i), 0⟩, ⟨5, Ins.cs x, 0⟩]) (id := 2) rfl hB (by omega)), (app_one (hp := [⟨3, [code l, I m, I s], 0⟩, ⟨3, [.sl 4 5 0 (List.length (ppY l B k i ++ B)), I m, I s], 0⟩, ⟨5, List.flatMap Ins.cs (ppY l B k i), 2⟩, ⟨5, Ins.cs x, 0⟩, ⟨5, List.flatMap Ins.cs (ppY l B k i ++ B), 0⟩, ⟨5, Ins.cs x, 0⟩]) (id := 4) (j := 5) (o := ppY l B k i ++ B) (y := x) rfl rfl (by rw [List.length_append]; omega)), ⟨trivial, trivial, ⟨VW.int (wsucc (by omega)), VW.ptr rfl rfl, VW.lst rfl rfl, VW.int rfl, VW.lst rfl rfl, VW.ptr rfl rfl, VW.int rfl, trivial⟩, ⟨BW.cells (.cons (VW.lst rfl rfl) (.cons (VW.int rfl) (.cons (VW.int rfl) .nil))), BW.cells (.cons (VW.sl rfl rfl rfl rfl) (.cons (VW.int rfl) (.cons (VW.int rfl) .nil))), BW.flat rfl (fun c hc => nb_cs hc), trivial⟩⟩, nE x (f3 ht) (by have := beq_iff_eq.1 e; omega)⟩, fun ne => ⟨(app_one (hp := [⟨3, [code l, I m, I s], 0⟩, ⟨3, [.sl 2 5 0 (List.length (ppY l B k i)), I m, I s], 0⟩, ⟨5, List.flatMap Ins.cs (ppY l B k i), 0⟩, ⟨5, Ins.cs x, 0⟩, ⟨5, Ins.cs x, 0⟩]) (id := 2) (j := 4) (o := ppY l B k i) (y := x) rfl rfl (by omega)), ⟨trivial, trivial, ⟨VW.int (wsucc (by omega)), VW.ptr rfl rfl, VW.lst rfl rfl, VW.int rfl, VW.lst rfl rfl, VW.ptr rfl rfl, VW.int rfl, trivial⟩, ⟨BW.cells (.cons (VW.lst rfl rfl) (.cons (VW.int rfl) (.cons (VW.int rfl) .nil))), BW.cells (.cons (VW.sl rfl rfl rfl rfl) (.cons (VW.int rfl) (.cons (VW.int rfl) .nil))), BW.flat rfl (fun c hc => nb_cs hc), trivial⟩⟩, nN x (f3 ht) (by have := beq_eq_false_iff_ne.1 ne; omega)⟩⟩⟩, fun h => absurd (of_decide_eq_false h) (by omega)⟩
theorem lp8c (l : List Ins) (m s : Int) (k : Nat) (hd : Wd l) (hw : WF l) (hn : l.length ≤ 1000) (hk : k ≤ 1000) (h27 h28 : List PV → Option PV) (hT : TabOk Tryd.prog X.G [(27, h27), (28, h28)])
    (e27 : ∀ x : Ins, By x → h27 [x.pv] = some (.tup [.int .i64 (tgt x), .bool (tb x.k)])) (e28 : ∀ (x : Ins) (j : Int), By x → h28 [x.pv, .int .i64 j] = some (rtI x j).pv) :
    ∀ r i, i + r = l.length → LoopOk Tryd.prog X.G 0 (lpB Tryd.f8 13) (st8b l [] m s k i (ppY l [] k i)) (.exit 2) (en8b l [] m s k (ppY l [] k l.length)) := by
  intro r
  induction r with
  | zero =>
    intro i hi
    obtain rfl : i = l.length := by omega
    refine round_ok env.mixed (tab_orc hT tn') (by kernel_rfl) (r8c h27 h28 l [] (ppY l [] k l.length) m s 0 l.length k ⟨0, 0, 0, 0, 0⟩ ⟨0, 0, 0, 0, 0⟩ false) ?_
    simp only [Holds, Pv.Next]
    refine ⟨fun h => absurd (of_decide_eq_true h) (by omega), fun _ => ⟨trivial, ⟨trivial, trivial, ⟨VW.ptr rfl rfl, VW.lst rfl rfl, VW.int rfl, VW.ptr rfl rfl, trivial⟩, ⟨BW.cells (.cons (VW.lst rfl rfl) (.cons (VW.int rfl) (.cons (VW.int rfl) .nil))), BW.cells (.cons (VW.sl rfl rfl rfl rfl) (.cons (VW.int rfl) (.cons (VW.int rfl) .nil))), BW.flat rfl (fun c hc => nb_cs hc), trivial⟩⟩, trivial, ?_⟩⟩
    first | exact trivial | rfl
  | succ r ih =>
    intro i hi
    obtain ⟨x, hx⟩ : ∃ x, l[i]? = some x := ⟨_, List.getElem?_eq_getElem (by omega)⟩
    have hx' : By x := hw x (List.mem_of_getElem? hx)
    have px := px_code hx
    have nx := ih (i + 1) (by omega)
    rw [pp_next hx] at nx
    have hpl := (pp_len l [] k i).1
    have hpl0 : (ppY l [] k i).length ≤ i + 0 := hpl
    have c27 : (tab X.sh [(27, h27), (28, h28)] []).iso 27 [x.pv] = some (.tup [.int .i64 (tgt x), .bool (tb x.k)]) := e27 x hx'
    have nE : ∀ y : Ins, fI k 0 x = y → i = k → LoopOk Tryd.prog X.G 0 (lpB Tryd.f8 13) (st8b l [] m s k (i + 1) (ppY l [] k i ++ [y])) (.exit 2) (en8b l [] m s k (ppY l [] k l.length)) := fun y hy e => by
      rw [if_pos e] at nx
      rw [← hy]
      rw [List.append_nil] at nx
      exact nx
    have nN : ∀ y : Ins, fI k 0 x = y → ¬ i = k → LoopOk Tryd.prog X.G 0 (lpB Tryd.f8 13) (st8b l [] m s k (i + 1) (ppY l [] k i ++ [y])) (.exit 2) (en8b l [] m s k (ppY l [] k l.length)) := fun y hy e => by
      rw [if_neg e] at nx
      rw [← hy]
      exact nx
    obtain ⟨f1, f2, f3⟩ := fI_cases (k := k) (m := 0) (x := x)
    cases ht : tb x.k with
    | true =>
      rw [ht] at c27
      have hti : 0 ≤ tgt x ∧ tgt x < l.length := hd.tgt_in hx ht
      have hwr : IntKind.i64.wrap (tgt x + 0) = tgt x + (0) := by rw [w64 (by omega) (by omega)]
      obtain ⟨z, hz⟩ : ∃ z, rtI x (tgt x + (((0 : Nat) : Int))) = z := ⟨_, rfl⟩
      have c28 : (tab X.sh [(27, h27), (28, h28)] []).iso 28 [x.pv, .int .i64 (IntKind.i64.wrap (tgt x + 0))] = some z.pv := by
        rw [hwr, ← hz]; exact e28 x _ hx'
      refine round_ok env.mixed (tab_orc hT tn') (by kernel_rfl) (r8c h27 h28 l [] (ppY l [] k i) m s (tgt x) i k x z true) ?_
      simp only [Holds, Pv.Next]
      exact ⟨fun _ => ⟨congrArg (Option.map fun v => (v, _)) px, fun _ => ⟨pcallv_iso rfl rfl c27, fun hge => ⟨pcallv_iso rfl rfl c28, fun e => ⟨app_sl0, (app_one (hp := [⟨3, [code l, I m, I s], 0⟩, ⟨3, [.sl 2 5 0 (List.length (ppY l [] k i)), I m, I s], 0⟩, ⟨5, List.flatMap Ins.cs (ppY l [] k i), 0⟩, ⟨5, Ins.cs z, 0⟩, ⟨5, Ins.cs z, 0⟩]) (id := 2) (j := 4) (o := ppY l [] k i) (y := z) rfl rfl (by omega)), ⟨trivial, trivial, ⟨VW.int (wsucc (by omega)), VW.ptr rfl rfl, VW.lst rfl rfl, VW.int rfl, VW.lst rfl rfl, VW.ptr rfl rfl, VW.int rfl, trivial⟩, ⟨BW.cells (.cons (VW.lst rfl rfl) (.cons (VW.int rfl) (.cons (VW.int rfl) .nil))), BW.cells (.cons (VW.sl rfl rfl rfl rfl) (.cons (VW.int rfl) (.cons (VW.int rfl) .nil))), BW.flat rfl (fun c hc => nb_cs hc), trivial⟩⟩, nE z ((f1 ht (of_decide_eq_true hge)).trans hz) (by have := beq_iff_eq.1 e; omega)⟩, fun ne => ⟨(app_one (hp := [⟨3, [code l, I m, I s], 0⟩, ⟨3, [.sl 2 5 0 (List.length (ppY l [] k i)), I m, I s], 0⟩, ⟨5, List.flatMap Ins.cs (ppY l [] k i), 0⟩, ⟨5, Ins.cs z, 0⟩, ⟨5, Ins.cs z, 0⟩]) (id := 2) (j := 4) (o := ppY l [] k i) (y := z) rfl rfl (by omega)), ⟨trivial, trivial, ⟨VW.int (wsucc (by omega)), VW.ptr rfl rfl, VW.lst rfl rfl, VW.int rfl, VW.lst rfl rfl, VW.ptr rfl rfl, VW.int rfl, trivial⟩, ⟨BW.cells (.cons (VW.lst rfl rfl) (.cons (VW.int rfl) (.cons (VW.int rfl) .nil))), BW.cells (.cons (VW.sl rfl rfl rfl rfl) (.cons (VW.int rfl) (.cons (VW.int rfl) .nil))), BW.flat rfl (fun c hc => nb_cs hc), trivial⟩⟩, nN z ((f1 ht (of_decide_eq_true hge)).trans hz) (by have := beq_eq_false_iff_ne.1 ne; omega)⟩⟩, fun hlt => ⟨fun e => ⟨app_sl0, (app_one (hp := [⟨3, [code l, I m, I s], 0⟩, ⟨3, [.sl 2 5 0 (List.length (ppY l [] k i)), I m, I s], 0⟩, ⟨5, List.flatMap Ins.cs (ppY l [] k i), 0⟩, ⟨5, Ins.cs x, 0⟩, ⟨5, Ins.cs x, 0⟩]) (id := 2) (j := 4) (o := ppY l [] k i) (y := x) rfl rfl (by omega)), ⟨trivial, trivial, ⟨VW.int (wsucc (by omega)), VW.ptr rfl rfl, VW.lst rfl rfl, VW.int rfl, VW.lst rfl rfl, VW.ptr rfl rfl, VW.int rfl, trivial⟩, ⟨BW.cells (.cons (VW.lst rfl rfl) (.cons (VW.int rfl) (.cons (VW.int rfl) .nil))), BW.cells (.cons (VW.sl rfl rfl rfl rfl) (.cons (VW.int rfl) (.cons (VW.int rfl) .nil))), BW.flat rfl (fun c hc => nb_cs hc), trivial⟩⟩, nE x (f2 ht (of_decide_eq_false hlt)) (by have := beq_iff_eq.1 e; omega)⟩, fun ne => ⟨(app_one (hp := [⟨3, [code l, I m, I s], 0⟩, ⟨3, [.sl 2 5 0 (List.length (ppY l [] k i)), I m, I s], 0⟩, ⟨5, List.flatMap Ins.cs (ppY l [] k i), 0⟩, ⟨5, Ins.cs x, 0⟩, ⟨5, Ins.cs x, 0⟩]) (id := 2) (j := 4) (o := ppY l [] k i) (y := x) rfl rfl (by omega)), ⟨trivial, trivial, ⟨VW.int (wsucc (by omega)), VW.ptr rfl rfl, VW.lst rfl rfl, VW.int rfl, VW.lst rfl rfl, VW.ptr rfl rfl, VW.int rfl, trivial⟩, ⟨BW.cells (.cons (VW.lst rfl rfl) (.cons (VW.int rfl) (.cons (VW.int rfl) .nil))), BW.cells (.cons (VW.sl rfl rfl rfl rfl) (.cons (VW.int rfl) (.cons (VW.int rfl) .nil))), BW.flat rfl (fun c hc => nb_cs hc), trivial⟩⟩, nN x (f2 ht (of_decide_eq_false hlt)) (by have := beq_eq_false_iff_ne.1 ne; omega)⟩⟩⟩, fun h => absurd h (by decide)⟩, fun h => absurd (of_decide_eq_false h) (by omega)⟩
    | false =>
      rw [ht] at c27
      refine round_ok env.mixed (tab_orc hT tn') (by kernel_rfl) (r8c h27 h28 l [] (ppY l [] k i) m s (tgt x) i k x x false) ?_
      simp only [Holds, Pv.Next]
      exact ⟨fun _ => ⟨congrArg (Option.map fun v => (v, _)) px, fun h => absurd h (by decide), fun _ => ⟨pcallv_iso rfl rfl c27, fun e => ⟨app_sl0, (app_one (hp := [⟨3, [code l, I m, I s], 0⟩, ⟨3, [.sl 2 5 0 (List.length (ppY l [] k i)), I m, I s], 0⟩, ⟨5, List.flatMap Ins.cs (ppY l [] k i), 0⟩, ⟨5, Ins.cs x, 0⟩, ⟨5, Ins.cs x, 0⟩]) (id := 2) (j := 4) (o := ppY l [] k i) (y := x) rfl rfl (by omega)), ⟨trivial, trivial, ⟨VW.int (wsucc (by omega)), VW.ptr rfl rfl, VW.lst rfl rfl, VW.int rfl, VW.lst rfl rfl, VW.ptr rfl rfl, VW.int rfl, trivial⟩, ⟨BW.cells (.cons (VW.lst rfl rfl) (.cons (VW.int rfl) (.cons (VW.int rfl) .nil))), BW.cells (.cons (VW.sl rfl rfl rfl rfl) (.cons (VW.int rfl) (.cons (VW.int rfl) .nil))), BW.flat rfl (fun c hc => nb_cs hc), trivial⟩⟩, nE x (f3 ht) (by have := beq_iff_eq.1 e; omega)⟩, fun ne => ⟨(app_one (hp := [⟨3, [code l, I m, I s], 0⟩, ⟨3, [.sl 2 5 0 (List.length (ppY l [] k i)), I m, I s], 0⟩, ⟨5, List.flatMap Ins.cs (ppY l [] k i), 0⟩, ⟨5, Ins.cs x, 0⟩, ⟨5, Ins.cs x, 0⟩]) (id := 2) (j := 4) (o := ppY l [] k i) (y := x) rfl rfl (by omega)), ⟨trivial, trivial, ⟨VW.int (wsucc (by omega)), VW.ptr rfl rfl, VW.lst rfl rfl, VW.int rfl, VW.lst rfl rfl, VW.ptr rfl rfl, VW.int rfl, trivial⟩, ⟨BW.cells (.cons (VW.lst rfl rfl) (.cons (VW.int rfl) (.cons (VW.int rfl) .nil))), BW.cells (.cons (VW.sl rfl rfl rfl rfl) (.cons (VW.int rfl) (.cons (VW.int rfl) .nil))), BW.flat rfl (fun c hc => nb_cs hc), trivial⟩⟩, nN x (f3 ht) (by have := beq_eq_false_iff_ne.1 ne; omega)⟩⟩⟩, fun h => absurd (of_decide_eq_false h) (by omega)⟩
theorem app_n0 {hp : List Pv.Box} {id : Nat} : pappend Tryd.prog hp id 28 28 .nils (code []) = some (.nils, hp) := by
  unfold pappend pappF
  rw [Tryd.underlying28]
  simp only [sz23, z23]
  rw [if_pos ⟨rfl, by decide⟩, tcells_pv]
  simp
theorem app_n1 {hp : List Pv.Box} {j : Nat} {y : Ins} (hj : hp[j]? = some ⟨5, y.cs, 0⟩) : pappend Tryd.prog hp hp.length 28 28 .nils (.sl j 5 0 1) = some (.sl hp.length 5 0 1, hp ++ [⟨5, y.cs, 0⟩]) := by
  have ht : tcells hp 5 (.sl j 5 0 1) = some (1, y.cs) := by
    unfold tcells
    simp only [hj]
    rw [if_pos ⟨by decide, trivial, by show (0 + 1) * 5 ≤ 5; omega⟩]
    rfl
  have hat : y.cs.all PV.atom = true := rfl
  unfold pappend pappF
  rw [Tryd.underlying28]
  simp only [sz23, z23]
  rw [if_pos ⟨rfl, by decide⟩, ht]
  simp only
  rw [if_pos hat, if_neg Nat.one_ne_zero, if_pos (bytes_ok by23 (by omega)), if_pos ⟨rfl, by decide⟩, if_pos hat]
  rfl
def en8n (B : List Ins) (m s : Int) (k : Nat) : PS := ⟨⟨154, [(10, .ptr 1 0), (7, code B), (9, .int .i64 (k : Int)), (3, .ptr 0 0)]⟩, [⟨3, [code [], .int .i64 m, .int .i64 s], 0⟩, ⟨3, [.nils, .int .i64 m, .int .i64 s], 0⟩]⟩
theorem lp8d (l B : List Ins) (m s : Int) (k : Nat) (hB : B ≠ []) (hBn : B.length ≤ 1000) (hd : Wd l) (hw : WF l) (hn : l.length ≤ 1000) (hk : k ≤ 1000) (h27 h28 : List PV → Option PV) (hT : TabOk Tryd.prog X.G [(27, h27), (28, h28)])
    (e27 : ∀ x : Ins, By x → h27 [x.pv] = some (.tup [.int .i64 (tgt x), .bool (tb x.k)])) (e28 : ∀ (x : Ins) (j : Int), By x → h28 [x.pv, .int .i64 j] = some (rtI x j).pv) (hl : 0 < l.length) :
    LoopOk Tryd.prog X.G 0 (lpB Tryd.f8 13) (st8n l B m s k 0) (.exit 2) (en8b l B m s k (ppY l B k l.length)) := by
  obtain ⟨x, hx⟩ : ∃ x, l[0]? = some x := ⟨_, List.getElem?_eq_getElem hl⟩
  have hx' : By x := hw x (List.mem_of_getElem? hx)
  have px := px_code hx
  have nx := lp8b l B m s k hB hBn hd hw hn hk h27 h28 hT e27 e28 (l.length - 1) 1 (by omega)
  have e0 : ppY l B k 1 = (if 0 = k then B else []) ++ [fI k B.length x] := by
    rw [show (1 : Nat) = 0 + 1 from rfl, pp_next hx]
    rfl
  rw [e0] at nx
  have c27 : (tab X.sh [(27, h27), (28, h28)] []).iso 27 [x.pv] = some (.tup [.int .i64 (tgt x), .bool (tb x.k)]) := e27 x hx'
  have nE : ∀ y : Ins, fI k B.length x = y → 0 = k → LoopOk Tryd.prog X.G 0 (lpB Tryd.f8 13) (st8b l B m s k 1 (B ++ [y])) (.exit 2) (en8b l B m s k (ppY l B k l.length)) := fun y hy e => by
    rw [if_pos e] at nx
    rw [← hy]
    exact nx
  have nN : ∀ y : Ins, fI k B.length x = y → ¬ 0 = k → LoopOk Tryd.prog X.G 0 (lpB Tryd.f8 13) (st8b l B m s k 1 [y]) (.exit 2) (en8b l B m s k (ppY l B k l.length)) := fun y hy e => by
    rw [if_neg e] at nx
    rw [← hy]
    exact nx
  obtain ⟨f1, f2, f3⟩ := fI_cases (k := k) (m := B.length) (x := x)
  cases ht : tb x.k with
  | true =>
    rw [ht] at c27
    have hti : 0 ≤ tgt x ∧ tgt x < l.length := hd.tgt_in hx ht
    have hwr : IntKind.i64.wrap (tgt x + ((List.map Ins.pv B).length : Int)) = tgt x + ((B.length : Int)) := by rw [List.length_map]; exact w64 (by omega) (by omega)
    obtain ⟨z, hz⟩ : ∃ z, rtI x (tgt x + ((B.length : Int))) = z := ⟨_, rfl⟩
    have c28 : (tab X.sh [(27, h27), (28, h28)] []).iso 28 [x.pv, .int .i64 (IntKind.i64.wrap (tgt x + ((List.map Ins.pv B).length : Int)))] = some z.pv := by
      rw [hwr, ← hz]; exact e28 x _ hx'
    refine round_ok env.mixed (tab_orc hT tn') (by kernel_rfl) (r8d h27 h28 l B [] m s (tgt x) 0 k x z true) ?_
    simp only [Holds, Pv.Next]
    exact ⟨fun _ => ⟨congrArg (Option.map fun v => (v, _)) px, fun _ => ⟨pcallv_iso rfl rfl c27, fun hge => ⟨pcallv_iso rfl rfl c28, fun e => ⟨(app_nil (hp := [⟨3, [code l, I m, I s], 0⟩, ⟨3, [.nils, I m, I s], 0⟩, ⟨5, Ins.cs z, 0⟩]) hB (by omega)), (app_one (hp := [⟨3, [code l, I m, I s], 0⟩, ⟨3, [.sl 3 5 0 (List.length B), I m, I s], 0⟩, ⟨5, Ins.cs z, 0⟩, ⟨5, List.flatMap Ins.cs B, 0⟩, ⟨5, Ins.cs z, 0⟩]) (id := 3) (j := 4) (o := B) (y := z) rfl rfl (by omega)), ⟨trivial, trivial, ⟨VW.int (wsucc (by omega)), VW.ptr rfl rfl, VW.lst rfl rfl, VW.int rfl, VW.lst rfl rfl, VW.ptr rfl rfl, VW.int rfl, trivial⟩, ⟨BW.cells (.cons (VW.lst rfl rfl) (.cons (VW.int rfl) (.cons (VW.int rfl) .nil))), BW.cells (.cons (VW.sl rfl rfl rfl rfl) (.cons (VW.int rfl) (.cons (VW.int rfl) .nil))), BW.flat rfl (fun c hc => nb_cs hc), trivial⟩⟩, nE z ((f1 ht (of_decide_eq_true hge)).trans hz) (by have := beq_iff_eq.1 e; omega)⟩, fun ne => ⟨(app_n1 (hp := [⟨3, [code l, I m, I s], 0⟩, ⟨3, [.nils, I m, I s], 0⟩, ⟨5, Ins.cs z, 0⟩, ⟨5, Ins.cs z, 0⟩]) (j := 3) (y := z) rfl), ⟨trivial, trivial, ⟨VW.int (wsucc (by omega)), VW.ptr rfl rfl, VW.lst rfl rfl, VW.int rfl, VW.lst rfl rfl, VW.ptr rfl rfl, VW.int rfl, trivial⟩, ⟨BW.cells (.cons (VW.lst rfl rfl) (.cons (VW.int rfl) (.cons (VW.int rfl) .nil))), BW.cells (.cons (VW.sl rfl rfl rfl rfl) (.cons (VW.int rfl) (.cons (VW.int rfl) .nil))), BW.flat rfl (fun c hc => nb_c1 (x := z) hc), trivial⟩⟩, nN z ((f1 ht (of_decide_eq_true hge)).trans hz) (by have := beq_eq_false_iff_ne.1 ne; omega)⟩⟩, fun hlt => ⟨fun e => ⟨(app_nil (hp := [⟨3, [code l, I m, I s], 0⟩, ⟨3, [.nils, I m, I s], 0⟩, ⟨5, Ins.cs x, 0⟩]) hB (by omega)), (app_one (hp := [⟨3, [code l, I m, I s], 0⟩, ⟨3, [.sl 3 5 0 (List.length B), I m, I s], 0⟩, ⟨5, Ins.cs x, 0⟩, ⟨5, List.flatMap Ins.cs B, 0⟩, ⟨5, Ins.cs x, 0⟩]) (id := 3) (j := 4) (o := B) (y := x) rfl rfl (by omega)), ⟨trivial, trivial, ⟨VW.int (wsucc (by omega)), VW.ptr rfl rfl, VW.lst rfl rfl, VW.int rfl, VW.lst rfl rfl, VW.ptr rfl rfl, VW.int rfl, trivial⟩, ⟨BW.cells (.cons (VW.lst rfl rfl) (.cons (VW.int rfl) (.cons (VW.int rfl) .nil))), BW.cells (.cons (VW.sl rfl rfl rfl rfl) (.cons (VW.int rfl) (.cons (VW.int rfl) .nil))), BW.flat rfl (fun c hc => nb_cs hc), trivial⟩⟩, nE x (f2 ht (of_decide_eq_false hlt)) (by have := beq_iff_eq.1 e; omega)⟩, fun ne => ⟨(app_n1 (hp := [⟨3, [code l, I m, I s], 0⟩, ⟨3, [.nils, I m, I s], 0⟩, ⟨5, Ins.cs x, 0⟩, ⟨5, Ins.cs x, 0⟩]) (j := 3) (y := x) rfl), ⟨trivial, trivial, ⟨VW.int (wsucc (by omega)), VW.ptr rfl rfl, VW.lst rfl rfl, VW.int rfl, VW.lst rfl rfl, VW.ptr rfl rfl, VW.int rfl, trivial⟩, ⟨BW.cells (.cons (VW.lst rfl rfl) (.cons (VW.int rfl) (.cons (VW.int rfl) .nil))), BW.cells (.cons (VW.sl rfl rfl rfl rfl) (.cons (VW.int rfl) (.cons (VW.int rfl) .nil))), BW.flat rfl (fun c hc => nb_c1 (x := x) hc), trivial⟩⟩, nN x (f2 ht (of_decide_eq_false hlt)) (by have := beq_eq_false_iff_ne.1 ne; omega)⟩⟩⟩, fun h => absurd h (by decide)⟩, fun h => absurd (of_decide_eq_false h) (by omega)⟩
  | false =>
    rw [ht] at c27
    refine round_ok env.mixed (tab_orc hT tn') (by kernel_rfl) (r8d h27 h28 l B [] m s (tgt x) 0 k x x false) ?_
    simp only [Holds, Pv.Next]
    exact ⟨fun _ => ⟨congrArg (Option.map fun v => (v, _)) px, fun h => absurd h (by decide), fun _ => ⟨pcallv_iso rfl rfl c27, fun e => ⟨(app_nil (hp := [⟨3, [code l, I m, I s], 0⟩, ⟨3, [.nils, I m, I s], 0⟩, ⟨5, Ins.cs x, 0⟩]) hB (by omega)), (app_one (hp := [⟨3, [code l, I m, I s], 0⟩, ⟨3, [.sl 3 5 0 (List.length B), I m, I s], 0⟩, ⟨5, Ins.cs x, 0⟩, ⟨5, List.flatMap Ins.cs B, 0⟩, ⟨5, Ins.cs x, 0⟩]) (id := 3) (j := 4) (o := B) (y := x) rfl rfl (by omega)), ⟨trivial, trivial, ⟨VW.int (wsucc (by omega)), VW.ptr rfl rfl, VW.lst rfl rfl, VW.int rfl, VW.lst rfl rfl, VW.ptr rfl rfl, VW.int rfl, trivial⟩, ⟨BW.cells (.cons (VW.lst rfl rfl) (.cons (VW.int rfl) (.cons (VW.int rfl) .nil))), BW.cells (.cons (VW.sl rfl rfl rfl rfl) (.cons (VW.int rfl) (.cons (VW.int rfl) .nil))), BW.flat rfl (fun c hc => nb_cs hc), trivial⟩⟩, nE x (f3 ht) (by have := beq_iff_eq.1 e; omega)⟩, fun ne => ⟨(app_n1 (hp := [⟨3, [code l, I m, I s], 0⟩, ⟨3, [.nils, I m, I s], 0⟩, ⟨5, Ins.cs x, 0⟩, ⟨5, Ins.cs x, 0⟩]) (j := 3) (y := x) rfl), ⟨trivial, trivial, ⟨VW.int (wsucc (by omega)), VW.ptr rfl rfl, VW.lst rfl rfl, VW.int rfl, VW.lst rfl rfl, VW.ptr rfl rfl, VW.int rfl, trivial⟩, ⟨BW.cells (.cons (VW.lst rfl rfl) (.cons (VW.int rfl) (.cons (VW.int rfl) .nil))), BW.cells (.cons (VW.sl rfl rfl rfl rfl) (.cons (VW.int rfl) (.cons (VW.int rfl) .nil))), BW.flat rfl (fun c hc => nb_c1 (x := x) hc), trivial⟩⟩, nN x (f3 ht) (by have := beq_eq_false_iff_ne.1 ne; omega)⟩⟩⟩, fun h => absurd (of_decide_eq_false h) (by omega)⟩
theorem lp8d0 (B : List Ins) (m s : Int) (k : Nat) (h27 h28 : List PV → Option PV) (hT : TabOk Tryd.prog X.G [(27, h27), (28, h28)]) :
    LoopOk Tryd.prog X.G 0 (lpB Tryd.f8 13) (st8n [] B m s k 0) (.exit 2) (en8n B m s k) := by
  refine round_ok env.mixed (tab_orc hT tn') (by kernel_rfl) (r8d h27 h28 [] B [] m s 0 0 k ⟨0, 0, 0, 0, 0⟩ ⟨0, 0, 0, 0, 0⟩ false) ?_
  simp only [Holds, Pv.Next]
  refine ⟨fun h => absurd (of_decide_eq_true h) (by simp), fun _ => ⟨trivial, ⟨trivial, trivial, ⟨VW.ptr rfl rfl, VW.lst rfl rfl, VW.int rfl, VW.ptr rfl rfl, trivial⟩, ⟨BW.cells (.cons (VW.lst rfl rfl) (.cons (VW.int rfl) (.cons (VW.int rfl) .nil))), BW.cells (.cons VW.nils (.cons (VW.int rfl) (.cons (VW.int rfl) .nil))), trivial⟩⟩, trivial, ?_⟩⟩
  first | exact trivial | rfl
theorem lp8e (l : List Ins) (m s : Int) (k : Nat) (hd : Wd l) (hw : WF l) (hn : l.length ≤ 1000) (hk : k ≤ 1000) (h27 h28 : List PV → Option PV) (hT : TabOk Tryd.prog X.G [(27, h27), (28, h28)])
    (e27 : ∀ x : Ins, By x → h27 [x.pv] = some (.tup [.int .i64 (tgt x), .bool (tb x.k)])) (e28 : ∀ (x : Ins) (j : Int), By x → h28 [x.pv, .int .i64 j] = some (rtI x j).pv) (hl : 0 < l.length) :
    LoopOk Tryd.prog X.G 0 (lpB Tryd.f8 13) (st8n l [] m s k 0) (.exit 2) (en8b l [] m s k (ppY l [] k l.length)) := by
  obtain ⟨x, hx⟩ : ∃ x, l[0]? = some x := ⟨_, List.getElem?_eq_getElem hl⟩
  have hx' : By x := hw x (List.mem_of_getElem? hx)
  have px := px_code hx
  have nx := lp8c l m s k hd hw hn hk h27 h28 hT e27 e28 (l.length - 1) 1 (by omega)
  have e0 : ppY l [] k 1 = (if 0 = k then [] else []) ++ [fI k 0 x] := by
    rw [show (1 : Nat) = 0 + 1 from rfl, pp_next hx]
    rfl
  rw [e0] at nx
  have c27 : (tab X.sh [(27, h27), (28, h28)] []).iso 27 [x.pv] = some (.tup [.int .i64 (tgt x), .bool (tb x.k)]) := e27 x hx'
  have nE : ∀ y : Ins, fI k 0 x = y → 0 = k → LoopOk Tryd.prog X.G 0 (lpB Tryd.f8 13) (st8b l [] m s k 1 [y]) (.exit 2) (en8b l [] m s k (ppY l [] k l.length)) := fun y hy e => by
    rw [if_pos e] at nx
    rw [← hy]
    exact nx
  have nN : ∀ y : Ins, fI k 0 x = y → ¬ 0 = k → LoopOk Tryd.prog X.G 0 (lpB Tryd.f8 13) (st8b l [] m s k 1 [y]) (.exit 2) (en8b l [] m s k (ppY l [] k l.length)) := fun y hy e => by
    rw [if_neg e] at nx
    rw [← hy]
    exact nx
  obtain ⟨f1, f2, f3⟩ := fI_cases (k := k) (m := 0) (x := x)
  cases ht : tb x.k with
  | true =>
    rw [ht] at c27
    have hti : 0 ≤ tgt x ∧ tgt x < l.length := hd.tgt_in hx ht
    have hwr : IntKind.i64.wrap (tgt x + 0) = tgt x + (0) := by rw [w64 (by omega) (by omega)]
    obtain ⟨z, hz⟩ : ∃ z, rtI x (tgt x + (((0 : Nat) : Int))) = z := ⟨_, rfl⟩
    have c28 : (tab X.sh [(27, h27), (28, h28)] []).iso 28 [x.pv, .int .i64 (IntKind.i64.wrap (tgt x + 0))] = some z.pv := by
      rw [hwr, ← hz]; exact e28 x _ hx'
    refine round_ok env.mixed (tab_orc hT tn') (by kernel_rfl) (r8e h27 h28 l [] [] m s (tgt x) 0 k x z true) ?_
    simp only [Holds, Pv.Next]
    exact ⟨fun _ => ⟨congrArg (Option.map fun v => (v, _)) px, fun _ => ⟨pcallv_iso rfl rfl c27, fun hge => ⟨pcallv_iso rfl rfl c28, fun e => ⟨app_n0, (app_n1 (hp := [⟨3, [code l, I m, I s], 0⟩, ⟨3, [.nils, I m, I s], 0⟩, ⟨5, Ins.cs z, 0⟩, ⟨5, Ins.cs z, 0⟩]) (j := 3) (y := z) rfl), ⟨trivial, trivial, ⟨VW.int (wsucc (by omega)), VW.ptr rfl rfl, VW.lst rfl rfl, VW.int rfl, VW.lst rfl rfl, VW.ptr rfl rfl, VW.int rfl, trivial⟩, ⟨BW.cells (.cons (VW.lst rfl rfl) (.cons (VW.int rfl) (.cons (VW.int rfl) .nil))), BW.cells (.cons (VW.sl rfl rfl rfl rfl) (.cons (VW.int rfl) (.cons (VW.int rfl) .nil))), BW.flat rfl (fun c hc => nb_c1 (x := z) hc), trivial⟩⟩, nE z ((f1 ht (of_decide_eq_true hge)).trans hz) (by have := beq_iff_eq.1 e; omega)⟩, fun ne => ⟨(app_n1 (hp := [⟨3, [code l, I m, I s], 0⟩, ⟨3, [.nils, I m, I s], 0⟩, ⟨5, Ins.cs z, 0⟩, ⟨5, Ins.cs z, 0⟩]) (j := 3) (y := z) rfl), ⟨trivial, trivial, ⟨VW.int (wsucc (by omega)), VW.ptr rfl rfl, VW.lst rfl rfl, VW.int rfl, VW.lst rfl rfl, VW.ptr rfl rfl, VW.int rfl, trivial⟩, ⟨BW.cells (.cons (VW.lst rfl rfl) (.cons (VW.int rfl) (.cons (VW.int rfl) .nil))), BW.cells (.cons (VW.sl rfl rfl rfl rfl) (.cons (VW.int rfl) (.cons (VW.int rfl) .nil))), BW.flat rfl (fun c hc => nb_c1 (x := z) hc), trivial⟩⟩, nN z ((f1 ht (of_decide_eq_true hge)).trans hz) (by have := beq_eq_false_iff_ne.1 ne; omega)⟩⟩, fun hlt => ⟨fun e => ⟨app_n0, (app_n1 (hp := [⟨3, [code l, I m, I s], 0⟩, ⟨3, [.nils, I m, I s], 0⟩, ⟨5, Ins.cs x, 0⟩, ⟨5, Ins.cs x, 0⟩]) (j := 3) (y := x) rfl), ⟨trivial, trivial, ⟨VW.int (wsucc (by omega)), VW.ptr rfl rfl, VW.lst rfl rfl, VW.int rfl, VW.lst rfl rfl, VW.ptr rfl rfl, VW.int rfl, trivial⟩, ⟨BW.cells (.cons (VW.lst rfl rfl) (.cons (VW.int rfl) (.cons (VW.int rfl) .nil))), BW.cells (.cons (VW.sl rfl rfl rfl rfl) (.cons (VW.int rfl) (.cons (VW.int rfl) .nil))), BW.flat rfl (fun c hc => nb_c1 (x := x) hc), trivial⟩⟩, nE x (f2 ht (of_decide_eq_false hlt)) (by have := beq_iff_eq.1 e; omega)⟩, fun ne => ⟨(app_n1 (hp := [⟨3, [code l, I m, I s], 0⟩, ⟨3, [.nils, I m, I s], 0⟩, ⟨5, Ins.cs x, 0⟩, ⟨5, Ins.cs x, 0⟩]) (j := 3) (y := x) rfl), ⟨trivial, trivial, ⟨VW.int (wsucc (by omega)), VW.ptr rfl rfl, VW.lst rfl rfl, VW.int rfl, VW.lst rfl rfl, VW.ptr rfl rfl, VW.int rfl, trivial⟩, ⟨BW.cells (.cons (VW.lst rfl rfl) (.cons (VW.int rfl) (.cons (VW.int rfl) .nil))), BW.cells (.cons (VW.sl rfl rfl rfl rfl) (.cons (VW.int rfl) (.cons (VW.int rfl) .nil))), BW.flat rfl (fun c hc => nb_c1 (x := x) hc), trivial⟩⟩, nN x (f2 ht (of_decide_eq_false hlt)) (by have := beq_eq_false_iff_ne.1 ne; omega)⟩⟩⟩, fun h => absurd h (by decide)⟩, fun h => absurd (of_decide_eq_false h) (by omega)⟩
  | false =>
    rw [ht] at c27
    refine round_ok env.mixed (tab_orc hT tn') (by kernel_rfl) (r8e h27 h28 l [] [] m s (tgt x) 0 k x x false) ?_
    simp only [Holds, Pv.Next]
    exact ⟨fun _ => ⟨congrArg (Option.map fun v => (v, _)) px, fun h => absurd h (by decide), fun _ => ⟨pcallv_iso rfl rfl c27, fun e => ⟨app_n0, (app_n1 (hp := [⟨3, [code l, I m, I s], 0⟩, ⟨3, [.nils, I m, I s], 0⟩, ⟨5, Ins.cs x, 0⟩, ⟨5, Ins.cs x, 0⟩]) (j := 3) (y := x) rfl), ⟨trivial, trivial, ⟨VW.int (wsucc (by omega)), VW.ptr rfl rfl, VW.lst rfl rfl, VW.int rfl, VW.lst rfl rfl, VW.ptr rfl rfl, VW.int rfl, trivial⟩, ⟨BW.cells (.cons (VW.lst rfl rfl) (.cons (VW.int rfl) (.cons (VW.int rfl) .nil))), BW.cells (.cons (VW.sl rfl rfl rfl rfl) (.cons (VW.int rfl) (.cons (VW.int rfl) .nil))), BW.flat rfl (fun c hc => nb_c1 (x := x) hc), trivial⟩⟩, nE x (f3 ht) (by have := beq_iff_eq.1 e; omega)⟩, fun ne => ⟨(app_n1 (hp := [⟨3, [code l, I m, I s], 0⟩, ⟨3, [.nils, I m, I s], 0⟩, ⟨5, Ins.cs x, 0⟩, ⟨5, Ins.cs x, 0⟩]) (j := 3) (y := x) rfl), ⟨trivial, trivial, ⟨VW.int (wsucc (by omega)), VW.ptr rfl rfl, VW.lst rfl rfl, VW.int rfl, VW.lst rfl rfl, VW.ptr rfl rfl, VW.int rfl, trivial⟩, ⟨BW.cells (.cons (VW.lst rfl rfl) (.cons (VW.int rfl) (.cons (VW.int rfl) .nil))), BW.cells (.cons (VW.sl rfl rfl rfl rfl) (.cons (VW.int rfl) (.cons (VW.int rfl) .nil))), BW.flat rfl (fun c hc => nb_c1 (x := x) hc), trivial⟩⟩, nN x (f3 ht) (by have := beq_eq_false_iff_ne.1 ne; omega)⟩⟩⟩, fun h => absurd (of_decide_eq_false h) (by omega)⟩
theorem lp8e0 (m s : Int) (k : Nat) (h27 h28 : List PV → Option PV) (hT : TabOk Tryd.prog X.G [(27, h27), (28, h28)]) :
    LoopOk Tryd.prog X.G 0 (lpB Tryd.f8 13) (st8n [] [] m s k 0) (.exit 2) (en8n [] m s k) := by
  refine round_ok env.mixed (tab_orc hT tn') (by kernel_rfl) (r8e h27 h28 [] [] [] m s 0 0 k ⟨0, 0, 0, 0, 0⟩ ⟨0, 0, 0, 0, 0⟩ false) ?_
  simp only [Holds, Pv.Next]
  refine ⟨fun h => absurd (of_decide_eq_true h) (by simp), fun _ => ⟨trivial, ⟨trivial, trivial, ⟨VW.ptr rfl rfl, VW.lst rfl rfl, VW.int rfl, VW.ptr rfl rfl, trivial⟩, ⟨BW.cells (.cons (VW.lst rfl rfl) (.cons (VW.int rfl) (.cons (VW.int rfl) .nil))), BW.cells (.cons VW.nils (.cons (VW.int rfl) (.cons (VW.int rfl) .nil))), trivial⟩⟩, trivial, ?_⟩⟩
  first | exact trivial | rfl
theorem inI_vld (x : Ins) : vld (inI x) = vld x := by unfold vld inI; exact inv_valid _ _ _ _ _
theorem inI_by {x : Ins} (h : By x) : By (inI x) := inv_range x.k h
/-- a call of the optimizer whose code is a box -/
theorem call16 {T : Tab} {hp : List Pv.Box} {j : Nat} {Z lc : List Ins} {m s : Int} (hb : hp[j]? = some ⟨5, Z.flatMap Ins.cs, 0⟩) (hc : (tab X.sh T []).iso 16 [imgP Z m s] = some (.tup [imgP lc m s, .int .i64 0])) :
    pcallv (tab X.sh T []) (.fn 16 []) [.agg [.sl j 5 0 Z.length, I m, I s]] hp = some (.tup [.agg [code lc, I m, I s], I 0], hp.set j ⟨5, Z.flatMap Ins.cs, 1⟩) := by
  have hf : fzL (fz deep) hp [.agg [.sl j 5 0 Z.length, I m, I s]] = some ([imgP Z m s], hp.set j ⟨5, Z.flatMap Ins.cs, 1⟩) :=
    fzL_cons (fz_agg (fzL_cons (fz_many (d := 3) hb) (fzL_cons rfl (fzL_cons rfl rfl)))) rfl
  have hn : (([.agg [.sl j 5 0 Z.length, I m, I s]] : List PV).all (noBoxB deep)) = false := rfl
  unfold pcallv
  simp only [List.append_nil]
  rw [if_neg (show ¬ (tab X.sh T []).sh 16 = true from fun h => absurd (show X.sh 16 = true from h) (by decide)), hn, if_neg (by decide), hf]
  simp only
  rw [hc]
  rfl
theorem frz_ok {l B : List Ins} {m s : Int} {bx : Pv.Box} : frzOk [1] [⟨3, [code l, I m, I s], 0⟩, ⟨5, List.flatMap Ins.cs B, 0⟩, bx] :=
  ⟨⟨rfl, by show 0 < 5; decide, by show (List.flatMap Ins.cs B).length % 5 = 0; rw [flatMap_len (sz := 5) (fun _ => rfl)]; exact Nat.mul_mod_left _ _, fun c hc => nb_cs hc⟩, trivial⟩
theorem frz_b {l B : List Ins} {m s : Int} {f : Nat → Option Nat} {b0 b2 : Pv.Box} : VW f [b0, ⟨5, List.flatMap Ins.cs B, 1⟩, b2] (.sl 1 5 0 (List.length B)) (code B) :=
  VW.frz (j := 1) (cells := List.flatMap Ins.cs B) rfl (by decide) (by rw [flatMap_len (sz := 5) (fun _ => rfl)]; exact Nat.le_refl _) (chunk_map (sz := 5) (pv := Ins.pv) (fun _ => rfl) (fun _ => rfl) B).symm
theorem bw_im {f : Nat → Option Nat} {hp : List Pv.Box} {l : List Ins} {m s : Int} : BW f hp ⟨3, [code l, I m, I s], 0⟩ ⟨3, [code l, I m, I s], 0⟩ := BW.cells (.cons (VW.lst rfl rfl) (.cons (VW.int rfl) (.cons (VW.int rfl) .nil)))
theorem bw_nil {f : Nat → Option Nat} {hp : List Pv.Box} {m s : Int} : BW f hp ⟨3, [.nils, I m, I s], 0⟩ ⟨3, [.nils, I m, I s], 0⟩ := BW.cells (.cons VW.nils (.cons (VW.int rfl) (.cons (VW.int rfl) .nil)))
theorem conv_at {hp : List Pv.Box} {a : Int} (h : 0 ≤ a ∧ a ≤ 255) : (pconv Tryd.prog 5 3 (.int .u8 a)).map (fun v => (v, hp)) = some (I a, hp) := by
  unfold pconv
  rw [Tryd.underlying5, Tryd.underlying3]
  simp only [Option.map_some]
  rw [w64 (by omega) (by omega)]
  rfl
theorem rem_at {hp : List Pv.Box} {a b : Int} {n k : Nat} (h : 0 ≤ a) (hb : b = (n : Int) + 1) (hk : k = a.toNat % (n + 1)) : (pbin Tryd.prog .rem 3 false (I a) (I b)).map (fun v => (v, hp)) = some (I (k : Int), hp) := by
  subst hb hk
  show (pint .rem .i64 a ((n : Int) + 1)).map _ = _
  unfold pint
  simp only
  rw [if_neg (by omega)]
  obtain ⟨q, rfl⟩ := Int.eq_ofNat_of_zero_le h
  show some (PV.int .i64 ((q : Int).tmod ((n + 1 : Nat) : Int)), hp) = _
  rw [← Int.ofNat_tmod]
  rfl
theorem van_law (al : List PV) (h : Tys Tryd.prog [30, 28, 5] al) : Ok Tryd.prog X.G 8 al (.bool true) := by
  cases h with
  | cons _ _ _ p _ h hs =>
  cases hs with
  | cons _ _ _ p2 _ h2 hs =>
  cases hs with
  | cons _ _ _ p3 _ h3 hs =>
  cases hs
  obtain ⟨x, hw, e⟩ := img_ty h
  obtain ⟨m', es, rfl, _, he⟩ := ty_slice Tryd.underlying28 (by rw [cells23]; decide) h2
  rw [cells23] at he
  obtain ⟨C, hC, rfl⟩ := list_ty es he
  obtain ⟨at0, rfl, ha0, ha1⟩ := ty_int Tryd.underlying5 h3
  have e2 : Pv.valOf Tryd.prog 28 [PV.lst (Tryd.prog.cellsOf 23) (C.map Ins.pv)] = code C := by
    unfold Pv.valOf
    rw [Tryd.underlying28, cells23]
    rfl
  have e3 : Pv.valOf Tryd.prog 5 [PV.int .u8 at0] = .int .u8 at0 := by
    unfold Pv.valOf
    rw [Tryd.underlying5]
    rfl
  rw [e, e2, e3]
  clear h h2 h3 e e2 e3 he
  obtain ⟨l, m, s⟩ := x
  have hw' : WF l := hw
  have ha : 0 ≤ at0 ∧ at0 ≤ 255 := ⟨ha0, ha1⟩
  show Ok Tryd.prog X.G 8 [imgP l m s, code C, .int .u8 at0] (.bool true)
  obtain ⟨h10, e10, o10⟩ := ent_ex (fun _ => True) (fun _ : Unit => (([] : List PV), PV.bool true)) (fun _ _ _ => rfl)
  obtain ⟨h15, e15, o15⟩ := ent_ex (fun x : Im => WF x.l) (fun x : Im => ([x.pv], PV.bool (smB x))) Im.inj1
  obtain ⟨h16, e16, o16⟩ := ent_ex Sm (fun x : Im => ([x.pv], PV.tup [x.op.pv, .int .i64 x.ce])) Im.inj1
  obtain ⟨h18, e18, o18⟩ := ent_ex (fun q : List Ins × List Ins => q.1.length ≤ 1000000) (fun q => ([code q.1, code q.2], PV.bool (decide (q.1 = q.2)))) (fun a b h => by
    simp only [code, List.cons.injEq, and_true, PV.lst.injEq, true_and] at h
    rw [pv_inj h.1, pv_inj h.2])
  have T10 : ∀ l r, h10 l = some r → Ok Tryd.prog X.G 10 l r := fun l r e => by obtain ⟨a, ha, rfl, rfl⟩ := o10 l r e; exact ok10
  have T15 : ∀ l r, h15 l = some r → Ok Tryd.prog X.G 15 l r := fun l r e => by obtain ⟨a, ha, rfl, rfl⟩ := o15 l r e; exact ok15 a ha
  have T18 : ∀ l r, h18 l = some r → Ok Tryd.prog X.G 18 l r := fun l r e => by obtain ⟨a, ha, rfl, rfl⟩ := o18 l r e; exact ok18 a.1 a.2 ha
  have hT : TabOk Tryd.prog X.G [(10, h10), (15, h15), (16, h16), (18, h18)] := tk T10 (tk T15 (tk (fun l r e => by obtain ⟨a, ha, rfl, rfl⟩ := o16 l r e; exact ok16 a ha) (tk T18 tn)))
  have c10 : (tab X.sh [(10, h10), (15, h15), (16, h16), (18, h18)] []).iso 10 [] = some (.bool true) := e10 () trivial
  have c15 : (tab X.sh [(10, h10), (15, h15), (16, h16), (18, h18)] []).iso 15 [imgP l m s] = some (.bool (smB ⟨l, m, s⟩)) := e15 ⟨l, m, s⟩ hw
  have fin : ∀ (bs : List Pv.Box), Fz bs (.bool true) (.bool true) := fun bs => ⟨_, _, rfl, Sub.refl _⟩
  cases hb : smB ⟨l, m, s⟩ with
  | false =>
    rw [hb] at c15
    refine wok env (tab_orc hT tn') fd8 (t8a h10 h15 h16 h18 l C [] [] [] m s at0 0 false) ?_
    simp only [Holds]
    exact ⟨pcallv_iso rfl rfl c10, fun h => absurd h (by decide), fun _ => ⟨pcallv_iso rfl rfl c15, pcallv_iso rfl rfl c10, fin _⟩⟩
  | true =>
  rw [hb] at c15
  obtain ⟨hs, h0⟩ := sm_of hw hb
  have hd : Wd l := (wd_ck.1 h0).2
  have hr := (wd_ck.1 h0).1
  have hn : l.length ≤ 300 := hs.2
  have hn90 : l.length ≤ 90 := by
    unfold smB at hb
    simp only [Bool.and_eq_true, decide_eq_true_eq] at hb
    exact hb.1
  have hop : (⟨l, m, s⟩ : Im).op = ⟨opt l, m, s⟩ := Im.op_ok h0
  have hco : (opt l).length ≤ 300 := by have := Sm.opt_le hs h0; show (opt l).length ≤ 300; have h : (opt l).length ≤ l.length := this; omega
  have c16 : (tab X.sh [(10, h10), (15, h15), (16, h16), (18, h18)] []).iso 16 [imgP l m s] = some (.tup [imgP (opt l) m s, .int .i64 0]) := by
    have := e16 ⟨l, m, s⟩ hs
    rw [hop, h0] at this
    exact this
  have c18 : (tab X.sh [(10, h10), (15, h15), (16, h16), (18, h18)] []).iso 18 [code (opt l), code (opt l)] = some (.bool true) := by
    have := e18 (opt l, opt l) (by show (opt l).length ≤ _; omega)
    rw [decide_eq_true rfl] at this
    exact this
  by_cases hC90 : 90 < C.length
  · refine wok env (tab_orc hT tn') fd8 (t8a h10 h15 h16 h18 l C [] [] [] m s at0 0 true) ?_
    simp only [Holds]
    exact ⟨pcallv_iso rfl rfl c10, fun _ => ⟨pcallv_iso rfl rfl c15, fun _ => ⟨pcallv_iso rfl rfl c10, fin _⟩, fun h => absurd (of_decide_eq_false h) (by rw [List.length_map]; omega)⟩, fun h => absurd h (by decide)⟩
  -- the tables of the loops
  obtain ⟨h13, e13, o13⟩ := ent_ex By (fun x : Ins => ([x.pv], .bool (vld x))) (fun a b h => by simp only [List.cons.injEq, and_true] at h; rw [Ins.pv_inj h])
  obtain ⟨h11, e11, o11⟩ := ent_ex (fun _ => True) (fun x : Ins => ([x.pv], (inI x).pv)) (fun a b h => by simp only [List.cons.injEq, and_true] at h; rw [Ins.pv_inj h])
  obtain ⟨h12, e12, o12⟩ := ent_ex (fun p : Ins × Ins => By p.1) (fun p : Ins × Ins => ([p.1.pv, p.2.pv], .bool (can p.1 p.2))) (fun a b h => by
    simp only [List.cons.injEq, and_true] at h
    rw [Ins.pv_inj h.1, Ins.pv_inj h.2])
  have hT1 : TabOk Tryd.prog X.G [(13, h13), (11, h11), (12, h12)] := tk (fun l r e => by obtain ⟨a, ha, rfl, rfl⟩ := o13 l r e; exact ok13 a ha) (tk (fun l r e => by obtain ⟨a, ha, rfl, rfl⟩ := o11 l r e; exact ok11 a) (tk (fun l r e => by obtain ⟨a, ha, rfl, rfl⟩ := o12 l r e; exact ok12 a.1 a.2 ha) tn))
  obtain ⟨h27, e27, o27⟩ := ent_ex By (fun x : Ins => ([x.pv], .tup [.int .i64 (tgt x), .bool (tb x.k)])) (fun a b h => by simp only [List.cons.injEq, and_true] at h; rw [Ins.pv_inj h])
  obtain ⟨h28, e28, o28⟩ := ent_ex (fun p : Ins × Int => By p.1) (fun p : Ins × Int => ([p.1.pv, .int .i64 p.2], (rtI p.1 p.2).pv)) (fun a b h => by
    simp only [List.cons.injEq, and_true, PV.int.injEq, true_and] at h
    rw [Ins.pv_inj h.1, h.2])
  have hT2 : TabOk Tryd.prog X.G [(27, h27), (28, h28)] := tk (fun l r e => by obtain ⟨a, ha, rfl, rfl⟩ := o27 l r e; exact ok27 a ha) (tk (fun l r e => by obtain ⟨a, ha, rfl, rfl⟩ := o28 l r e; exact ok28 a.1 a.2 ha) tn)
  have e28' : ∀ (x : Ins) (j : Int), By x → h28 [x.pv, .int .i64 j] = some (rtI x j).pv := fun x j h => e28 (x, j) h
  obtain ⟨k, hkd⟩ : ∃ k : Nat, k = at0.toNat % (l.length + 1) := ⟨_, rfl⟩
  have hk : k ≤ l.length := by rw [hkd]; have := Nat.mod_lt at0.toNat (show 0 < l.length + 1 by omega); omega
  have hwl : IntKind.i64.wrap (((List.map Ins.pv l).length : Int) + 1) = (l.length : Int) + 1 := by rw [List.length_map]; exact w64 (by omega) (by omega)
  have rm : ∀ hp : List Pv.Box, (pbin Tryd.prog .rem 3 false (I at0) (I (IntKind.i64.wrap (((List.map Ins.pv l).length : Int) + 1)))).map (fun v => (v, hp)) = some (I (k : Int), hp) := fun hp => by
    rw [hwl]; exact rem_at ha0 rfl hkd
  have vl : ∀ (f : Nat → Option Nat) (hp : List Pv.Box), VW f hp (I ((List.map Ins.pv l).length : Int)) (I (l.length : Int)) := fun f hp => VW.int (by rw [List.length_map])
  have lp := lp8 l C m s at0 hC (by omega) h13 h11 h12 hT1 e13 (fun x => e11 x trivial) (fun x y h => e12 (x, y) h) C.length C ((C.length : Int) - 1) (Nat.le_refl _) (by omega) rfl
  have hwc : IntKind.i64.wrap (((List.map Ins.pv C).length : Int) - 1) = (C.length : Int) - 1 := by rw [List.length_map]; exact w64 (by omega) (by omega)
  by_cases hbad : ∃ (j : Nat) (x : Ins), j < C.length ∧ C[j]? = some x ∧ gd x = false
  · -- some instruction is not undone
    have hCne : C ≠ [] := by rintro rfl; obtain ⟨j, x, hj, _⟩ := hbad; simp at hj
    refine wok env (tab_orc hT tn') fd8 (t8r h10 h15 h16 h18 l C m s at0) ?_
    simp only [Holds]
    refine ⟨pcallv_iso rfl rfl c10, pcallv_iso rfl rfl c15, fun h => absurd (of_decide_eq_true h) (by rw [List.length_map]; omega), fun _ => ⟨app_emp (hp := [⟨3, [code l, I m, I s], 0⟩]) hCne (by omega), ⟨trivial, trivial, ⟨VW.int hwc, VW.lst rfl rfl, VW.sl rfl rfl rfl rfl, VW.ptr rfl rfl, VW.int rfl, trivial⟩, ⟨bw_im, BW.flat rfl (fun c hc => nb_cs hc), trivial⟩⟩, lp.2 hbad, fin _⟩⟩
  have hgd : ∀ (j : Nat) (x : Ins), j < C.length → C[j]? = some x → gd x = true := fun j x hj hx => by
    cases hg : gd x with
    | true => rfl
    | false => exact absurd ⟨j, x, hj, hx, hg⟩ hbad
  have hcan : ∀ x ∈ C, can x (inI x) = true := fun x hx => by
    obtain ⟨j, hj⟩ := List.mem_iff_getElem?.1 hx
    have := hgd j x (List.getElem?_eq_some_iff.1 hj).1 hj
    unfold gd at this
    rw [Bool.and_eq_true] at this
    exact this.2
  have l1 := lp.1 hgd
  rw [List.take_length] at l1
  obtain ⟨B, hB⟩ : ∃ B, C ++ (C.map inI).reverse = B := ⟨_, rfl⟩
  rw [hB] at l1
  have hBl : B.length = C.length + C.length := by rw [← hB]; simp
  have hBw : WF B := fun z hz => by
    rw [← hB] at hz
    rcases List.mem_append.1 hz with hz | hz
    · exact hC z hz
    · obtain ⟨x, hx, rfl⟩ := List.mem_map.1 (List.mem_reverse.1 hz)
      exact inI_by (hC x hx)
  have hps : Ps l B k := ⟨hd, hk, by omega, fun z hz => by
    rw [← hB] at hz
    rcases List.mem_append.1 hz with hz | hz
    · have := can_iff.1 (hcan z hz); exact ⟨this.1, this.2.2.2.2.1⟩
    · obtain ⟨x, hx, rfl⟩ := List.mem_map.1 (List.mem_reverse.1 hz)
      have := can_iff.1 (hcan x hx)
      rw [inI_tb, inI_vld]
      exact ⟨this.1, this.2.2.2.2.1⟩⟩
  have hZ : opt (putL l B k) = opt l := by rw [← hB]; exact opt_put hd hw' (by omega) hk hcan
  have hcZ : ckE (putL l B k) m s = 0 := wd_ck.2 ⟨hr, hps.wd_put⟩
  have hsZ : Sm ⟨putL l B k, m, s⟩ := ⟨put_wf hw' hBw k, by show (putL l B k).length ≤ 300; rw [put_len hk]; omega⟩
  have c16Z : (tab X.sh [(10, h10), (15, h15), (16, h16), (18, h18)] []).iso 16 [imgP (putL l B k) m s] = some (.tup [imgP (opt l) m s, .int .i64 0]) := by
    have := e16 ⟨putL l B k, m, s⟩ hsZ
    rw [Im.op_ok (x := ⟨putL l B k, m, s⟩) hcZ, show (⟨putL l B k, m, s⟩ : Im).ce = 0 from hcZ] at this
    rw [← hZ]
    exact this
  have hpp := pp_all (l := l) (B := B) hk
  by_cases hCe : C = []
  · have hBe : B = [] := by rw [← hB, hCe]; rfl
    subst hCe
    subst hBe
    -- the first loop has nothing to do
    have l0 : LoopOk Tryd.prog X.G 0 (lpB Tryd.f8 5) ⟨⟨154, [(8, .int .i64 (-1)), (1, code []), (7, .emp), (3, .ptr 0 0), (2, .int .u8 at0)]⟩, [⟨3, [code l, .int .i64 m, .int .i64 s], 0⟩]⟩ (.exit 0) ⟨⟨154, [(7, .emp), (3, .ptr 0 0), (2, .int .u8 at0)]⟩, [⟨3, [code l, .int .i64 m, .int .i64 s], 0⟩]⟩ := by
      refine round_ok env.mixed (tab_orc tn tn') (by kernel_rfl) (r8z l m s at0) ?_
      simp only [Holds, Pv.Next]
      refine ⟨trivial, ⟨trivial, trivial, ⟨VW.emp, VW.ptr rfl rfl, VW.int rfl, trivial⟩, ⟨bw_im, trivial⟩⟩, trivial, ?_⟩
      first | exact trivial | rfl
    by_cases hle : l = []
    · subst hle
      -- nothing at all
      obtain ⟨g16, q16, p16⟩ := ent_ex (fun _ => True) (fun b : Bool => (([cond b (imgP [] m s) (PV.agg [.nils, I m, I s])] : List PV), PV.tup [imgP (opt []) m s, .int .i64 0])) (fun _ _ _ => rfl)
      have okE : Ok Tryd.prog X.G 16 [imgP [] m s] (PV.tup [imgP (opt []) m s, .int .i64 0]) := by
        have := ok16 ⟨[], m, s⟩ hs
        rw [hop, h0] at this
        exact this
      have hTE : TabOk Tryd.prog X.G [(10, h10), (15, h15), (16, g16), (18, h18)] := tk T10 (tk T15 (tk (fun l r e => by
        obtain ⟨b, _, rfl, rfl⟩ := p16 l r e
        cases b
        · exact okE.args (.cons (Sub.agg (.cons (Sub.nils 5) (.cons (Sub.refl _) (.cons (Sub.refl _) .nil)))) .nil)
        · exact okE) (tk T18 tn)))
      have hoE : opt ([] : List Ins) = [] := List.eq_nil_of_length_eq_zero (by have := Sm.opt_le hs h0; have h : (opt ([] : List Ins)).length ≤ ([] : List Ins).length := this; simpa using h)
      rw [hoE] at q16 c18
      have d16 : (tab X.sh [(10, h10), (15, h15), (16, g16), (18, h18)] []).iso 16 [imgP [] m s] = some (.tup [imgP [] m s, .int .i64 0]) := q16 true trivial
      have d16n : (tab X.sh [(10, h10), (15, h15), (16, g16), (18, h18)] []).iso 16 [PV.agg [.nils, I m, I s]] = some (.tup [imgP [] m s, .int .i64 0]) := q16 false trivial
      have d10 : (tab X.sh [(10, h10), (15, h15), (16, g16), (18, h18)] []).iso 10 [] = some (.bool true) := c10
      have d15 : (tab X.sh [(10, h10), (15, h15), (16, g16), (18, h18)] []).iso 15 [imgP [] m s] = some (.bool true) := c15
      have d18 : (tab X.sh [(10, h10), (15, h15), (16, g16), (18, h18)] []).iso 18 [code [], code []] = some (.bool true) := c18
      have hk0 : k = 0 := by simpa using hk
      have lE := lp8e0 m s 0 h27 h28 hT2
      refine wok env (tab_orc hTE tn') fd8 (t8d h10 h15 g16 h18 m s at0) ?_
      simp only [Holds]
      exact ⟨pcallv_iso rfl rfl d10, pcallv_iso rfl rfl d15, by rfl, ⟨trivial, trivial, ⟨VW.int rfl, VW.lst rfl rfl, VW.emp, VW.ptr rfl rfl, VW.int rfl, trivial⟩, ⟨bw_im (l := []), trivial⟩⟩, l0, conv_at ha, rem_at (n := 0) (k := 0) ha0 rfl (by omega), ⟨trivial, trivial, ⟨VW.int rfl, VW.ptr rfl rfl, VW.el 5 rfl, VW.int rfl, VW.lst rfl rfl, VW.ptr rfl rfl, VW.int rfl, trivial⟩, ⟨bw_im (l := []), bw_nil, trivial⟩⟩, lE, app_n0, pcallv_iso rfl rfl d16, pcallv_iso rfl rfl d16n, pcallv_iso rfl rfl d18, fin _⟩
    · -- no code to put in
      have hl0 : 0 < l.length := List.length_pos_iff.2 hle
      have lE := lp8e l m s k hd hw' (by omega) (by omega) h27 h28 hT2 e27 e28' hl0
      have hY : ppY l [] k l.length = putL l [] k := by
        have := hpp
        split at this
        · rwa [List.append_nil] at this
        · exact this
      rw [← hY] at c16Z
      have g := call16 (T := [(10, h10), (15, h15), (16, h16), (18, h18)]) (hp := [⟨3, [code l, I m, I s], 0⟩, ⟨3, [.sl 2 5 0 (List.length (ppY l [] k l.length)), I m, I s], 0⟩, ⟨5, List.flatMap Ins.cs (ppY l [] k l.length), 0⟩, ⟨3, [code (opt l), I m, I s], 0⟩]) (j := 2) rfl c16Z
      refine wok env (tab_orc hT tn') fd8 (t8c h10 h15 h16 h18 l (ppY l [] k l.length) (opt l) m s at0 k) ?_
      simp only [Holds]
      exact ⟨pcallv_iso rfl rfl c10, pcallv_iso rfl rfl c15, by rfl, ⟨trivial, trivial, ⟨VW.int rfl, VW.lst rfl rfl, VW.emp, VW.ptr rfl rfl, VW.int rfl, trivial⟩, ⟨bw_im, trivial⟩⟩, l0, conv_at ha, rm _, ⟨trivial, trivial, ⟨VW.int rfl, VW.ptr rfl rfl, VW.el 5 rfl, VW.int rfl, VW.lst rfl rfl, VW.ptr rfl rfl, vl _ _, trivial⟩, ⟨bw_im, bw_nil, trivial⟩⟩, lE,
        fun _ => ⟨app_sl0, pcallv_iso rfl rfl c16, g, pcallv_iso rfl rfl c18, fin _⟩, fun _ => ⟨pcallv_iso rfl rfl c16, g, pcallv_iso rfl rfl c18, fin _⟩⟩
  · have hBne : B ≠ [] := by
      intro hBe
      rw [hBe] at hBl
      exact hCe (List.eq_nil_of_length_eq_zero (by simp at hBl; omega))
    have st1 : ∀ (f : Nat → Option Nat) (hp : List Pv.Box), VW f hp (I (IntKind.i64.wrap (((List.map Ins.pv C).length : Int) - 1))) (I ((C.length : Int) - 1)) := fun f hp => VW.int hwc
    by_cases hle : l = []
    · subst hle
      have hk0 : k = 0 := by simpa using hk
      subst hk0
      have lD := lp8d0 B m s 0 h27 h28 hT2
      have hY : B = putL [] B 0 := by
        have h : (if (0 : Nat) = 0 then ppY [] B 0 0 ++ B else ppY [] B 0 0) = putL [] B 0 := hpp
        rw [if_pos rfl] at h
        exact h
      rw [← hY] at c16Z
      have hoE : opt ([] : List Ins) = [] := List.eq_nil_of_length_eq_zero (by have := Sm.opt_le hs h0; have h : (opt ([] : List Ins)).length ≤ ([] : List Ins).length := this; simpa using h)
      rw [hoE] at c16Z c16 c18
      have g := call16 (T := [(10, h10), (15, h15), (16, h16), (18, h18)]) (hp := [⟨3, [code [], I m, I s], 0⟩, ⟨3, [.sl 2 5 0 (List.length B), I m, I s], 0⟩, ⟨5, List.flatMap Ins.cs B, 0⟩, ⟨3, [code [], I m, I s], 0⟩]) (j := 2) rfl c16Z
      refine wok env (tab_orc hT tn') fd8 (t8b h10 h15 h16 h18 C B m s at0) ?_
      simp only [Holds]
      exact ⟨pcallv_iso rfl rfl c10, pcallv_iso rfl rfl c15, fun h => absurd (of_decide_eq_true h) (by rw [List.length_map]; omega), fun _ => ⟨app_emp (hp := [⟨3, [code [], I m, I s], 0⟩]) hCe (by omega), ⟨trivial, trivial, ⟨st1 _ _, VW.lst rfl rfl, VW.sl rfl rfl rfl rfl, VW.ptr rfl rfl, VW.int rfl, trivial⟩, ⟨bw_im (l := []), BW.flat rfl (fun c hc => nb_cs hc), trivial⟩⟩, l1, conv_at ha, rem_at (n := 0) (k := 0) ha0 rfl (by omega), ⟨trivial, frz_ok (l := []) (m := m) (s := s) (bx := ⟨3, [.nils, I m, I s], 0⟩), ⟨VW.int rfl, VW.ptr rfl rfl, frz_b (l := []) (m := m) (s := s), VW.int rfl, VW.lst rfl rfl, VW.ptr rfl rfl, VW.int rfl, trivial⟩, ⟨bw_im (l := []), bw_nil, trivial⟩⟩, lD, app_nil (hp := [⟨3, [code [], I m, I s], 0⟩, ⟨3, [.nils, I m, I s], 0⟩]) hBne (by omega), pcallv_iso rfl rfl c16, g, pcallv_iso rfl rfl c18, fin _⟩⟩
    · have hl0 : 0 < l.length := List.length_pos_iff.2 hle
      have lD := lp8d l B m s k hBne (by omega) hd hw' (by omega) (by omega) h27 h28 hT2 e27 e28' hl0
      obtain ⟨Y, hY⟩ : ∃ Y, ppY l B k l.length = Y := ⟨_, rfl⟩
      rw [hY] at lD hpp
      have hYl : Y.length ≤ 1000 := by
        have := (pp_len l B k l.length).1
        rw [hY] at this
        omega
      refine wok env (tab_orc hT tn') fd8 (t8a h10 h15 h16 h18 l C B Y (opt l) m s at0 k true) ?_
      simp only [Holds]
      refine ⟨pcallv_iso rfl rfl c10, fun _ => ⟨pcallv_iso rfl rfl c15, fun h => absurd (of_decide_eq_true h) (by rw [List.length_map]; omega), fun _ => ⟨app_emp (hp := [⟨3, [code l, I m, I s], 0⟩]) hCe (by omega), ⟨trivial, trivial, ⟨st1 _ _, VW.lst rfl rfl, VW.sl rfl rfl rfl rfl, VW.ptr rfl rfl, VW.int rfl, trivial⟩, ⟨bw_im, BW.flat rfl (fun c hc => nb_cs hc), trivial⟩⟩, l1, conv_at ha, rm _, ⟨trivial, frz_ok (l := l) (m := m) (s := s) (bx := ⟨3, [.nils, I m, I s], 0⟩), ⟨VW.int rfl, VW.ptr rfl rfl, frz_b (l := l) (m := m) (s := s), VW.int rfl, VW.lst rfl rfl, VW.ptr rfl rfl, vl _ _, trivial⟩, ⟨bw_im, bw_nil, trivial⟩⟩, lD, fun hq => ?_, fun hq => ?_⟩⟩, fun h => absurd h (by decide)⟩
      · have hkl : k = l.length := by have := beq_iff_eq.1 hq; rw [List.length_map] at this; omega
        rw [if_pos hkl] at hpp
        rw [← hpp] at c16Z
        exact ⟨app_sl (hp := [⟨3, [code l, I m, I s], 0⟩, ⟨3, [.sl 2 5 0 (List.length Y), I m, I s], 0⟩, ⟨5, List.flatMap Ins.cs Y, 0⟩]) (id := 2) rfl hBne (by omega), pcallv_iso rfl rfl c16, call16 (T := [(10, h10), (15, h15), (16, h16), (18, h18)]) (hp := [⟨3, [code l, I m, I s], 0⟩, ⟨3, [.sl 3 5 0 (List.length (Y ++ B)), I m, I s], 0⟩, ⟨5, List.flatMap Ins.cs Y, 2⟩, ⟨5, List.flatMap Ins.cs (Y ++ B), 0⟩, ⟨3, [code (opt l), I m, I s], 0⟩]) (j := 3) rfl c16Z, pcallv_iso rfl rfl c18, fin _⟩
      · have hkl : k ≠ l.length := by have := beq_eq_false_iff_ne.1 hq; rw [List.length_map] at this; omega
        rw [if_neg hkl] at hpp
        rw [← hpp] at c16Z
        exact ⟨pcallv_iso rfl rfl c16, call16 (T := [(10, h10), (15, h15), (16, h16), (18, h18)]) (hp := [⟨3, [code l, I m, I s], 0⟩, ⟨3, [.sl 2 5 0 (List.length Y), I m, I s], 0⟩, ⟨5, List.flatMap Ins.cs Y, 0⟩, ⟨3, [code (opt l), I m, I s], 0⟩]) (j := 2) rfl c16Z, pcallv_iso rfl rfl c18, fin _⟩
end Go.Proofs.YtkfmhmkeikhdbaaDoor
