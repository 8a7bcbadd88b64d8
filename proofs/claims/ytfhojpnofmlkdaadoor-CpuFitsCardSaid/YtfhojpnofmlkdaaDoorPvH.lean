/- Regions whose order is drawn, evaluated: which boxes are left alone is found out. -/
import Derived.Test.YtfhojpnofmlkdaaDoorPvN
namespace Go.Proofs.YtfhojpnofmlkdaaDoor.Pv
open Go.RowKit
set_option linter.unusedSimpArgs false
set_option linter.unusedVariables false
set_option maxHeartbeats 1000000

def eqL (f : PV → PV → Bool) : List PV → List PV → Bool
  | [], [] => true
  | a :: as, b :: bs => f a b && eqL f as bs
  | _, _ => false
def eqPV : Nat → PV → PV → Bool
  | 0, _, _ => false
  | d + 1, a, b =>
    match a, b with
    | .any, .any => true
    | .bool x, .bool y => x == y
    | .int k n, .int k' m => decide (k = k') && (n == m)
    | .str s, .str t => s.data.toList == t.data.toList
    | .agg l, .agg m => eqL (eqPV d) l m
    | .tup l, .tup m => eqL (eqPV d) l m
    | .nils, .nils => true
    | .emp, .emp => true
    | .lst z l, .lst z' m => (z == z') && eqL (eqPV d) l m
    | .sl i a b c, .sl i' a' b' c' => (i == i') && ((a == a') && ((b == b') && (c == c')))
    | .cptr l, .cptr m => eqL (eqPV d) l m
    | .ptr i o, .ptr i' o' => (i == i') && (o == o')
    | .nilp, .nilp => true
    | .fn f l, .fn f' m => (f == f') && eqL (eqPV d) l m
    | .nilfn, .nilfn => true
    | .ifc t x, .ifc t' y => (t == t') && eqPV d x y
    | .nilifc, .nilifc => true
    | .own i z l, .own i' z' m => (i == i') && ((z == z') && eqL (eqPV d) l m)
    | _, _ => false
theorem eqL_eq {f : PV → PV → Bool} (hf : ∀ a b, f a b = true → a = b) : ∀ {as bs : List PV}, eqL f as bs = true → as = bs
  | [], [], _ => rfl
  | a :: as, b :: bs, h => by
    simp only [eqL, Bool.and_eq_true] at h
    rw [hf a b h.1, eqL_eq hf h.2]
  | [], _ :: _, h => by simp [eqL] at h
  | _ :: _, [], h => by simp [eqL] at h
theorem eqPV_eq : ∀ (d : Nat) (a b : PV), eqPV d a b = true → a = b := by
  intro d
  induction d with
  | zero => intro a b h; simp [eqPV] at h
  | succ d ih =>
    intro a b h
    have L := fun {as bs : List PV} (h : eqL (eqPV d) as bs = true) => eqL_eq (f := eqPV d) ih h
    unfold eqPV at h
    split at h
    · rfl
    · rw [beq_iff_eq] at h; rw [h]
    · simp only [Bool.and_eq_true, decide_eq_true_eq, beq_iff_eq] at h; rw [h.1, h.2]
    · rename_i s t
      rw [beq_iff_eq] at h
      obtain ⟨⟨s⟩⟩ := s
      obtain ⟨⟨t⟩⟩ := t
      simp only at h
      rw [h]
    · rw [L h]
    · rw [L h]
    · rfl
    · rfl
    · simp only [Bool.and_eq_true, beq_iff_eq] at h; rw [h.1, L h.2]
    · simp only [Bool.and_eq_true, beq_iff_eq] at h; obtain ⟨h1, h2, h3, h4⟩ := h; rw [h1, h2, h3, h4]
    · rw [L h]
    · simp only [Bool.and_eq_true, beq_iff_eq] at h; rw [h.1, h.2]
    · rfl
    · simp only [Bool.and_eq_true, beq_iff_eq] at h; rw [h.1, L h.2]
    · rfl
    · simp only [Bool.and_eq_true, beq_iff_eq] at h; rw [h.1, ih _ _ h.2]
    · rfl
    · simp only [Bool.and_eq_true, beq_iff_eq] at h; obtain ⟨h1, h2, h3⟩ := h; rw [h1, h2, L h3]
    · cases h
def eqBox (a b : Box) : Bool := (a.sz == b.sz) && ((a.st == b.st) && eqL (eqPV deep) a.cells b.cells)
theorem eqBox_eq {a b : Box} (h : eqBox a b = true) : a = b := by
  unfold eqBox at h
  simp only [Bool.and_eq_true, beq_iff_eq] at h
  obtain ⟨h1, h2, h3⟩ := h
  have h3 := eqL_eq (eqPV_eq deep) h3
  obtain ⟨a1, a2, a3⟩ := a
  obtain ⟨b1, b2, b3⟩ := b
  simp only at h1 h2 h3
  rw [h1, h2, h3]
def sameB (ts : List Nat) : List (Nat × Nat) → List Box → List Box → Bool
  | [], _, _ => true
  | q :: r, a, b => (match ts.contains q.1 with | true => (match a[q.2]?, b[q.2]? with | some x, some y => eqBox x y | _, _ => false) | false => decide (a.length ≤ b.length)) && sameB ts r a b
theorem sameB_ok {ts : List Nat} {a b : List Box} : ∀ {U : List (Nat × Nat)}, sameB ts U a b = true → sameU ts U a b
  | [], _ => trivial
  | q :: U, h => by
    simp only [sameB, Bool.and_eq_true] at h
    obtain ⟨h1, h2⟩ := h
    unfold sameU
    split at h1
    · rename_i e
      rw [e]
      refine ⟨?_, sameB_ok h2⟩
      split at h1
      · rename_i x y e1 e2
        rw [e1, e2, eqBox_eq h1]
      · cases h1
    · rename_i e
      rw [e]
      exact ⟨of_decide_eq_true h1, sameB_ok h2⟩
def untB (P : Program) (G : Nat → List PV) (C : Orc) (ops : Array Oper) : Nat → List Oper → PS → Bool
  | _, [], _ => true
  | k, o :: rest, s =>
    match pwant ops s.tmps o with
    | some true =>
      match popD P C (isF ops o) (evP G s.tmps) s.hp o.op with
      | some (v, hp') => (match kindO C.hs ops o == 3 with | true => sameB (unord C.hs ops k) C.un s.hp hp' | false => true) && (v.force fun v => forceL hp' fun hp' => untB P G C ops (k + 1) rest ⟨putT s.tmps o.dst v, hp'⟩)
      | none => true
    | some false => untB P G C ops (k + 1) rest ⟨putT s.tmps o.dst (.tup []), s.hp⟩
    | none => true
theorem untB_ok {P : Program} {G : Nat → List PV} {C : Orc} {ops : Array Oper} : ∀ (l : List Oper) (k : Nat) (s : PS), untB P G C ops k l s = true → Unt P G C ops k l s
  | [], _, _, _ => trivial
  | o :: rest, k, s, h => by
    unfold untB at h
    unfold Unt
    split
    · rename_i hw
      simp only [hw] at h
      split
      · rename_i v hp' h1
        simp only [h1, PV.force_eq, forceL_eq, Bool.and_eq_true] at h
        refine ⟨fun hk => ?_, untB_ok rest _ _ h.2⟩
        have h2 := h.1
        simp only [hk] at h2
        exact sameB_ok h2
      · trivial
    · rename_i hw
      simp only [hw] at h
      exact untB_ok rest _ _ h
    · trivial
/-- the boxes that are read out of turn -/
def roIds (P : Program) (G : Nat → List PV) (C : Orc) (ops : Array Oper) : List Oper → PS → List (Nat × Nat)
  | [], _ => []
  | o :: rest, s =>
    match pwant ops s.tmps o with
    | some true =>
      match popD P C (isF ops o) (evP G s.tmps) s.hp o.op with
      | some (v, hp') =>
        let r := v.force fun v => forceL hp' fun hp' => roIds P G C ops rest ⟨putT s.tmps o.dst v, hp'⟩
        match o.op with
        | .load T (.tmp t) => match roL C.hs T (.tmp t) with | true => (match getT s.tmps t with | .ptr id _ => (t, id) :: r | _ => r) | false => r
        | _ => r
      | none => []
    | some false => roIds P G C ops rest ⟨putT s.tmps o.dst (.tup []), s.hp⟩
    | none => []
def anyRo (hs : Nat → Bool) (ops : List Oper) : Bool := ops.any fun o => match o.op with | .load T x => roL hs T x | _ => false
/-- whatever may be read -/
def allU (ops : List Oper) (n : Nat) : List (Nat × Nat) := ops.flatMap fun o => match o.op with | .load _ (.tmp t) => (List.range n).map fun i => (t, i) | _ => []
/-- a region whose order is drawn -/
def pdraw (P : Program) (G : Nat → List PV) (C : Orc) (ops : Array Oper) (s : PS) : Option PS :=
  match anyRo C.hs ops.toList with
  | false => pseqD P G (C.wu []) ops ops.toList s
  | true => forceN (roIds P G (C.wu (allU ops.toList s.hp.length)) ops ops.toList s) fun U =>
    match U.all (fun q => decide (q.2 < s.hp.length)) && untB P G (C.wu U) ops 0 ops.toList s with
    | true => pseqD P G (C.wu U) ops ops.toList s
    | false => none
where forceN {β : Type} (l : List (Nat × Nat)) (k : List (Nat × Nat) → β) : β := match l with | [] => k [] | x :: xs => forceN xs fun ys => k (x :: ys)
theorem forceN_eq {β : Type} : ∀ (l : List (Nat × Nat)) (k : List (Nat × Nat) → β), pdraw.forceN l k = k l
  | [], k => rfl
  | x :: xs, k => by unfold pdraw.forceN; rw [forceN_eq xs]
theorem pdraw_ok {P : Program} {G : Nat → List PV} {C : Orc} {ops : Array Oper} {s s' : PS} (h : pdraw P G C ops s = some s') :
    ∃ U : List (Nat × Nat), (∀ q ∈ U, q.2 < s.hp.length) ∧ pseqD P G (C.wu U) ops ops.toList s = some s' ∧ Unt P G (C.wu U) ops 0 ops.toList s := by
  unfold pdraw at h
  split at h
  · exact ⟨[], fun id hi => by simp at hi, h, unt_nil rfl _ _ _⟩
  · rw [forceN_eq] at h
    split at h
    · rename_i hc
      rw [Bool.and_eq_true] at hc
      exact ⟨_, fun id hi => of_decide_eq_true (List.all_eq_true.1 hc.1 id hi), h, untB_ok _ _ _ hc.2⟩
    · cases h
theorem OrcOk.wu {P : Program} {G : Nat → List PV} {C : Orc} (h : OrcOk P G C) (U : List (Nat × Nat)) : OrcOk P G (C.wu U) := ⟨h.iso, h.shr⟩
end Go.Proofs.YtfhojpnofmlkdaaDoor.Pv
