/- Regions whose order is drawn. -/
import Derived.Test.YtfhojpnofmlkdaaDoorPvK
import Derived.Orders
namespace Go.Proofs.YtfhojpnofmlkdaaDoor.Pv
open Go.RowKit
set_option linter.unusedSimpArgs false
set_option linter.unusedVariables false
set_option maxHeartbeats 1000000

/-- a call within a region whose order is drawn: with plain values, and nothing is taken out of the boxes for good -/
def pcallD (C : Orc) (f : PV) (as : List PV) (hp : List Box) : Option (PV × List Box) :=
  match f with
  | .fn g caps =>
    if C.sh g = true then (if (as ++ caps).all (noBoxB deep) = true then pfresh C g (as ++ caps) hp.length else none)
    else if (as ++ caps).all (noBoxB deep) = true then (C.iso g (as ++ caps)).map fun r => (r, [])
    else
      match fzL (fz deep) hp (as ++ caps) with
      | some (as', _) =>
        match C.iso g as' with
        | some r => if flatB deep r = true then some (r, []) else none
        | none => none
      | none => none
  | _ => none
/-- 0: no box is touched; 1: boxes are read; 2: a box is made; 3: boxes are written -/
def kind : Op → Nat
  | .load _ _ => 1
  | .call { callee := .value _, .. } => 1
  | .buildSlice _ 0 _ => 1
  | .alloc _ | .box _ _ | .buildSlice _ _ _ | .makeSlice _ _ _ => 2
  | .store _ _ _ => 3
  | .call { callee := .builtin .append, .. } => 3
  | _ => 0
/-- is the slice one that surely has no room? -/
def freshS (ops : Array Oper) : Operand → Bool
  | .const (.slice _ 0 0) => true
  | .tmp t => ops.toList.any fun o => o.dst == some t && match o.op with | .buildSlice _ 0 _ => true | _ => false
  | _ => false
/-- is the call one that may write boxes? -/
def hardC (hs : Nat → Bool) : Operand → Bool
  | .func g => hs g
  | _ => hs 1000001
/-- is the load one of memory that nobody writes? -/
def roL (hs : Nat → Bool) (T : TypeId) : Operand → Bool
  | .tmp t => hs (4000000 + 1000 * t + T)
  | _ => false
/-- 4: an append where there is no room: a box is made -/
def kindO (hs : Nat → Bool) (ops : Array Oper) (o : Oper) : Nat :=
  match o.op with
  | .call { callee := .builtin .append, args, .. } => match args.toList with | s :: _ => if freshS ops s = true then 4 else 3 | [] => 3
  | .call { callee := .value f, .. } => if hardC hs f = true then 3 else 1
  | .convert _ t _ => if hs (1000000 + t) = true then 1 else 0
  | .load T x => if roL hs T x = true then 0 else 1
  | op => kind op
/-- what such an append makes -/
def pmk (P : Program) (ev : Operand → PV) (hp : List Box) (op : Op) : Option (PV × Option Box) :=
  match op with
  | .call { callee := .builtin .append, args, argTypes } =>
    match argTypes[0]?, argTypes[1]?, args.toList with
    | some T, some X, [s, t] => pappF P hp hp.length T X (ev s) (ev t)
    | _, _, _ => none
  | _ => none
/-- the same, to append more later -/
def pmkO (P : Program) (ev : Operand → PV) (hp : List Box) (op : Op) : Option (PV × List Box) :=
  match op with
  | .call { callee := .builtin .append, args, argTypes } =>
    match argTypes[0]?, argTypes[1]?, args.toList with
    | some T, some X, [s, t] => match ev s with | .nils => pappO P hp hp.length T X .nils (ev t) | .emp => pappO P hp hp.length T X .emp (ev t) | _ => none
    | _, _, _ => none
  | _ => none
def popD (P : Program) (C : Orc) (fr : Bool) (ev : Operand → PV) (hp : List Box) (op : Op) : Option (PV × List Box) :=
  match fr with
  | true => match C.sh 1000000 with | true => pmkO P ev hp op | false => (pmk P ev hp op).map fun (v, b) => (v, hp ++ b.toList)
  | false =>
    match op with
    | .load T x =>
      if roL C.hs T x = true then
        match ev x with
        | .cptr cs => (mk P T cs).map fun v => (v, hp)
        | .ptr id off => match x with | .tmp t => if C.un.any (fun q => q.1 == t && q.2 == id) = true then (pload P hp T (.ptr id off)).map fun v => (v, hp) else none | _ => none
        | _ => none
      else (pload P hp T (ev x)).map fun v => (v, hp)
    | .call { callee := .value f, args, argTypes } => if hardC C.hs f = true then pop P C ev hp (.call { callee := .value f, args, argTypes }) else (pcallD C (ev f) (args.toList.map ev) hp).map fun (v, more) => (v, hp ++ more)
    | op => pop P C ev hp op
def isF (ops : Array Oper) (o : Oper) : Bool := kindO (fun _ => false) ops o == 4
theorem isF_iff {hs : Nat → Bool} {ops : Array Oper} {o : Oper} : isF ops o = (kindO hs ops o == 4) := by
  unfold isF kindO
  split
  · rfl
  · split <;> split <;> rfl
  · split <;> split <;> rfl
  · split <;> split <;> rfl
  · rfl
def pseqD (P : Program) (G : Nat → List PV) (C : Orc) (ops : Array Oper) : List Oper → PS → Option PS
  | [], s => some s
  | o :: rest, s =>
    match pwant ops s.tmps o with
    | some true =>
      match popD P C (isF ops o) (evP G s.tmps) s.hp o.op with
      | some (v, hp') => v.force fun v => forceL hp' fun hp' => pseqD P G C ops rest ⟨putT s.tmps o.dst v, hp'⟩
      | none => none
    | some false => pseqD P G C ops rest ⟨putT s.tmps o.dst (.tup []), s.hp⟩
    | none => none

def opT : Operand → List Nat | .tmp t => [t] | _ => []
/-- the slots that an operation looks at -/
def rd (ops : Array Oper) (o : Oper) : List Nat :=
  o.op.operands.toList.flatMap opT ++ (match o.guard with | some (j, _) => ((ops[j]?).bind (·.dst)).toList | none => [])
def uni (s l : List Nat) : List Nat := l.foldl (fun s i => if s.contains i then s else i :: s) s
def bnds (o : Oper) : List Nat := (o.after.toList.filter (Region.binds .any ·)).map (·.on)
def ancs (ops : List Oper) : List (List Nat) :=
  ops.foldl (fun acc o => acc ++ [(bnds o).foldl (fun s j => uni s (j :: acc.getD j [])) []]) []
def conf (hs : Nat → Bool) (ops : Array Oper) (o p : Oper) : Bool :=
  (o.dst.toList.any fun t => (rd ops p).contains t || p.dst.toList.contains t) || (p.dst.toList.any fun t => (rd ops o).contains t) || (kindO hs ops o == 3 && decide (1 ≤ kindO hs ops p)) || (kindO hs ops p == 3 && decide (1 ≤ kindO hs ops o))
/-- does the order not matter? -/
def drOk (hs : Nat → Bool) (ops : Array Oper) : Bool :=
  let an := ancs ops.toList
  (List.range ops.size).all fun i =>
    match ops[i]? with
    | some p => (bnds p).all (· < i) && (List.range i).all fun j => match ops[j]? with | some o => !conf hs ops o p || (an.getD i []).contains j | none => true
    | none => true
inductive Anc (ops : Array Oper) : Nat → Nat → Prop
  | one (i j : Nat) (o : Oper) (h : ops[i]? = some o) (hj : j ∈ bnds o) : Anc ops i j
  | step (i j k : Nat) (o : Oper) (h : ops[i]? = some o) (hj : j ∈ bnds o) (hk : Anc ops j k) : Anc ops i k
theorem uni_mem {s l : List Nat} {x : Nat} (h : x ∈ uni s l) : x ∈ s ∨ x ∈ l := by
  unfold uni at h
  induction l generalizing s with
  | nil => exact .inl h
  | cons a l ih =>
    rw [List.foldl_cons] at h
    rcases ih h with h | h
    · split at h
      · exact .inl h
      · rcases List.mem_cons.1 h with rfl | h
        · exact .inr (List.mem_cons_self ..)
        · exact .inl h
    · exact .inr (List.mem_cons_of_mem _ h)
theorem ancs_ok (ops : Array Oper) : ∀ (l : List Oper) (acc : List (List Nat)), (∀ k o, l[k]? = some o → ops[acc.length + k]? = some o) → (∀ i s, acc[i]? = some s → ∀ j ∈ s, Anc ops i j) →
    ∀ i s, (l.foldl (fun acc o => acc ++ [(bnds o).foldl (fun s j => uni s (j :: acc.getD j [])) []]) acc)[i]? = some s → ∀ j ∈ s, Anc ops i j := by
  intro l
  induction l with
  | nil => intro acc _ h; exact h
  | cons o l ih =>
    intro acc hl hacc
    rw [List.foldl_cons]
    refine ih _ (fun k p hk => ?_) (fun i s hs j hj => ?_)
    · rw [List.length_append, List.length_singleton, Nat.add_assoc, Nat.add_comm 1 k]
      exact hl (k + 1) p hk
    · by_cases hi : i < acc.length
      · rw [List.getElem?_append_left hi] at hs
        exact hacc i s hs j hj
      · rw [List.getElem?_append_right (by omega)] at hs
        have hi0 : i - acc.length = 0 := by
          have := (List.getElem?_eq_some_iff.1 hs).1
          simp at this; exact this
        rw [hi0] at hs
        simp at hs
        subst hs
        have hio : i = acc.length := by omega
        have ho : ops[i]? = some o := by rw [hio]; exact hl 0 o rfl
        have key : ∀ (q : List Nat) (s : List Nat), (∀ x ∈ q, x ∈ bnds o) → (∀ x ∈ s, Anc ops i x) → ∀ x ∈ q.foldl (fun s j => uni s (j :: acc.getD j [])) s, Anc ops i x := by
          intro q
          induction q with
          | nil => intro s _ h; exact h
          | cons b q ihq =>
            intro s hq hs
            rw [List.foldl_cons]
            refine ihq _ (fun x hx => hq x (List.mem_cons_of_mem _ hx)) (fun x hx => ?_)
            have hb := hq b (List.mem_cons_self ..)
            rcases uni_mem hx with hx | hx
            · exact hs x hx
            · rcases List.mem_cons.1 hx with rfl | hx
              · exact .one i x o ho hb
              · rw [List.getD_eq_getElem?_getD] at hx
                cases hq2 : acc[b]? with
                | none => rw [hq2] at hx; simp at hx
                | some s2 => rw [hq2] at hx; exact .step i b x o ho hb (hacc b s2 hq2 x hx)
        exact key _ [] (fun x hx => hx) (fun x hx => by simp at hx) j hj
theorem drOk_spec {hs : Nat → Bool} {ops : Array Oper} (h : drOk hs ops = true) : (∀ (i : Nat) p, ops[i]? = some p → ∀ j ∈ bnds p, j < i) ∧ (∀ (i j : Nat) o p, j < i → ops[j]? = some o → ops[i]? = some p → conf hs ops o p = true → Anc ops i j) := by
  unfold drOk at h
  have hA : ∀ i p, ops[i]? = some p → ((bnds p).all (· < i) && (List.range i).all fun j => match ops[j]? with | some o => !conf hs ops o p || ((ancs ops.toList).getD i []).contains j | none => true) = true := fun i p hp => by
    have := List.all_eq_true.1 h i (List.mem_range.2 (Array.getElem?_eq_some_iff.1 hp).1)
    rw [hp] at this
    exact this
  refine ⟨fun i p hp j hj => ?_, fun i j o p hji ho hp hc => ?_⟩
  · have := (Bool.and_eq_true_iff.1 (hA i p hp)).1
    simpa using List.all_eq_true.1 this j hj
  · have := (Bool.and_eq_true_iff.1 (hA i p hp)).2
    have := List.all_eq_true.1 this j (List.mem_range.2 hji)
    rw [ho] at this
    simp only [hc, Bool.not_true, Bool.false_or] at this
    rw [List.getD_eq_getElem?_getD] at this
    cases hq : (ancs ops.toList)[i]? with
    | none => rw [hq] at this; simp at this
    | some s =>
      rw [hq] at this
      exact ancs_ok ops ops.toList [] (fun k o h => by rw [Array.getElem?_toList] at h; simpa using h) (fun i s h => by simp at h) i s hq j (by simpa using this)

/-- the addresses that are read in no order with the operation j -/
def unord (hs : Nat → Bool) (ops : Array Oper) (j : Nat) : List Nat :=
  let an := ancs ops.toList
  (List.range ops.size).flatMap fun i => match ops[i]? with
    | some o => (match o.op with | .load T (.tmp t) => if roL hs T (.tmp t) && !((an.getD i []).contains j || (an.getD j []).contains i) then [t] else [] | _ => [])
    | none => []
/-- these boxes are the same -/
def sameU (ts : List Nat) : List (Nat × Nat) → List Box → List Box → Prop
  | [], _, _ => True
  | q :: r, a, b => match ts.contains q.1 with | true => a[q.2]? = b[q.2]? ∧ sameU ts r a b | false => a.length ≤ b.length ∧ sameU ts r a b
theorem sameU_at {ts : List Nat} {a b : List Box} : ∀ {U : List (Nat × Nat)}, sameU ts U a b → ∀ q ∈ U, q.1 ∈ ts → a[q.2]? = b[q.2]?
  | [], _, q, hq, _ => by simp at hq
  | p :: U, h, q, hq, ht => by
    unfold sameU at h
    rcases List.mem_cons.1 hq with rfl | hq
    · have : ts.contains q.1 = true := by simpa using ht
      rw [this] at h
      exact h.1
    · split at h
      · exact sameU_at h.2 q hq ht
      · exact sameU_at h.2 q hq ht
theorem sameU_len {ts : List Nat} {a b : List Box} : ∀ {U : List (Nat × Nat)}, sameU ts U a b → ∀ q ∈ U, q.2 < a.length → q.2 < b.length
  | [], _, q, hq, _ => by simp at hq
  | p :: U, h, q, hq, hl => by
    unfold sameU at h
    rcases List.mem_cons.1 hq with rfl | hq
    · split at h
      · have := h.1
        rw [List.getElem?_eq_getElem hl] at this
        exact (List.getElem?_eq_some_iff.1 this.symm).1
      · exact Nat.lt_of_lt_of_le hl h.1
    · split at h
      · exact sameU_len h.2 q hq hl
      · exact sameU_len h.2 q hq hl
/-- who writes boxes leaves those -/
def Unt (P : Program) (G : Nat → List PV) (C : Orc) (ops : Array Oper) : Nat → List Oper → PS → Prop
  | _, [], _ => True
  | k, o :: rest, s =>
    match pwant ops s.tmps o with
    | some true =>
      match popD P C (isF ops o) (evP G s.tmps) s.hp o.op with
      | some (v, hp') => (kindO C.hs ops o = 3 → sameU (unord C.hs ops k) C.un s.hp hp') ∧ Unt P G C ops (k + 1) rest ⟨putT s.tmps o.dst v, hp'⟩
      | none => True
    | some false => Unt P G C ops (k + 1) rest ⟨putT s.tmps o.dst (.tup []), s.hp⟩
    | none => True
theorem unt_nil {P : Program} {G : Nat → List PV} {C : Orc} {ops : Array Oper} (hC : C.un = []) : ∀ (l : List Oper) (k : Nat) (s : PS), Unt P G C ops k l s
  | [], _, _ => trivial
  | o :: rest, k, s => by
    unfold Unt
    split
    · split
      · exact ⟨fun _ => by rw [hC]; trivial, unt_nil hC rest _ _⟩
      · trivial
    · exact unt_nil hC rest _ _
    · trivial

theorem ancs_get {ops : Array Oper} {i j : Nat} (h : j ∈ (ancs ops.toList).getD i []) : Anc ops i j := by
  rw [List.getD_eq_getElem?_getD] at h
  cases hq : (ancs ops.toList)[i]? with
  | none => rw [hq] at h; simp at h
  | some s =>
    rw [hq] at h
    exact ancs_ok ops ops.toList [] (fun k o h => by rw [Array.getElem?_toList] at h; simpa using h) (fun i s h => by simp at h) i s hq j (by simpa using h)
theorem unord_mem {hs : Nat → Bool} {ops : Array Oper} {i j : Nat} {o : Oper} {T : TypeId} {t : Tmp} (ho : ops[i]? = some o) (e : o.op = .load T (.tmp t)) (hr : roL hs T (.tmp t) = true) (h1 : ¬ Anc ops i j) (h2 : ¬ Anc ops j i) : t ∈ unord hs ops j := by
  unfold unord
  refine List.mem_flatMap.2 ⟨i, List.mem_range.2 (Array.getElem?_eq_some_iff.1 ho).1, ?_⟩
  simp only [ho, e]
  have c1 : ((ancs ops.toList).getD i []).contains j = false := by
    cases h : ((ancs ops.toList).getD i []).contains j with
    | false => rfl
    | true => exact absurd (ancs_get (by simpa using h)) h1
  have c2 : ((ancs ops.toList).getD j []).contains i = false := by
    cases h : ((ancs ops.toList).getD j []).contains i with
    | false => rfl
    | true => exact absurd (ancs_get (by simpa using h)) h2
  rw [c1, c2, hr]
  simp
/-- the ways of a run in the order of the text -/
structure Tr (P : Program) (G : Nat → List PV) (C : Orc) (ops : Array Oper) (s s' : PS) (tr : Nat → PS) (vv : Nat → PV) (bb : Nat → Bool) : Prop where
  first : tr 0 = s
  last : tr ops.size = s'
  want : ∀ (i : Nat) o, ops[i]? = some o → pwant ops (tr i).tmps o = some (bb i)
  yes : ∀ (i : Nat) o, ops[i]? = some o → bb i = true → popD P C (isF ops o) (evP G (tr i).tmps) (tr i).hp o.op = some (vv i, (tr (i + 1)).hp)
  no : ∀ (i : Nat) o, ops[i]? = some o → bb i = false → vv i = .tup [] ∧ (tr (i + 1)).hp = (tr i).hp
  put : ∀ (i : Nat) o, ops[i]? = some o → (tr (i + 1)).tmps = putT (tr i).tmps o.dst (vv i)
  unt : ∀ (i : Nat) o, ops[i]? = some o → bb i = true → kindO C.hs ops o = 3 → sameU (unord C.hs ops i) C.un (tr i).hp (tr (i + 1)).hp
theorem tr_of {P : Program} {G : Nat → List PV} {C : Orc} {ops : Array Oper} : ∀ (l : List Oper) (k : Nat) (s s' : PS), (∀ i, l[i]? = ops[k + i]?) → pseqD P G C ops l s = some s' → Unt P G C ops k l s →
    ∃ (tr : Nat → PS) (vv : Nat → PV) (bb : Nat → Bool), tr k = s ∧ tr (k + l.length) = s' ∧ ∀ (i : Nat) o, k ≤ i → ops[i]? = some o → pwant ops (tr i).tmps o = some (bb i) ∧ (bb i = true → popD P C (isF ops o) (evP G (tr i).tmps) (tr i).hp o.op = some (vv i, (tr (i + 1)).hp)) ∧ (bb i = false → vv i = .tup [] ∧ (tr (i + 1)).hp = (tr i).hp) ∧ (tr (i + 1)).tmps = putT (tr i).tmps o.dst (vv i) ∧ (bb i = true → kindO C.hs ops o = 3 → sameU (unord C.hs ops i) C.un (tr i).hp (tr (i + 1)).hp) := by
  intro l
  induction l with
  | nil =>
    intro k s s' hl h _
    simp only [pseqD] at h; cases h
    refine ⟨fun _ => s, fun _ => .any, fun _ => true, rfl, rfl, fun i o hi ho => ?_⟩
    have := hl (i - k)
    rw [show k + (i - k) = i by omega, ho] at this
    simp at this
  | cons o l ih =>
    intro k s s' hl h hun
    have hok : ops[k]? = some o := by have := hl 0; simpa using this.symm
    have hl' : ∀ i, l[i]? = ops[k + 1 + i]? := fun i => by have := hl (i + 1); rw [List.getElem?_cons_succ] at this; rw [this]; congr 1; omega
    unfold pseqD at h
    unfold Unt at hun
    have mk : ∀ (s1 : PS) (b : Bool) (v : PV), pwant ops s.tmps o = some b → (b = true → popD P C (isF ops o) (evP G s.tmps) s.hp o.op = some (v, s1.hp)) → (b = false → v = .tup [] ∧ s1.hp = s.hp) → s1.tmps = putT s.tmps o.dst v → pseqD P G C ops l s1 = some s' → Unt P G C ops (k + 1) l s1 → (b = true → kindO C.hs ops o = 3 → sameU (unord C.hs ops k) C.un s.hp s1.hp) →
        ∃ (tr : Nat → PS) (vv : Nat → PV) (bb : Nat → Bool), tr k = s ∧ tr (k + (o :: l).length) = s' ∧ ∀ (i : Nat) o, k ≤ i → ops[i]? = some o → pwant ops (tr i).tmps o = some (bb i) ∧ (bb i = true → popD P C (isF ops o) (evP G (tr i).tmps) (tr i).hp o.op = some (vv i, (tr (i + 1)).hp)) ∧ (bb i = false → vv i = .tup [] ∧ (tr (i + 1)).hp = (tr i).hp) ∧ (tr (i + 1)).tmps = putT (tr i).tmps o.dst (vv i) ∧ (bb i = true → kindO C.hs ops o = 3 → sameU (unord C.hs ops i) C.un (tr i).hp (tr (i + 1)).hp) := fun s1 b v q1 q2 q3 q4 q5 q6 q7 => by
      obtain ⟨tr, vv, bb, e1, e2, e3⟩ := ih (k + 1) s1 s' hl' q5 q6
      refine ⟨fun i => if i = k then s else tr i, fun i => if i = k then v else vv i, fun i => if i = k then b else bb i, by simp, ?_, fun i p hi hp => ?_⟩
      · simp only [List.length_cons]
        rw [if_neg (by omega), ← e2]
        congr 1; omega
      · by_cases hik : i = k
        · subst hik
          rw [hok] at hp; cases hp
          simp only [if_true]
          rw [if_neg (by omega), e1]
          exact ⟨q1, q2, q3, q4, q7⟩
        · simp only [if_neg hik]
          rw [if_neg (by omega)]
          exact e3 i p (by omega) hp
    split at h
    · rename_i hw
      split at h
      · rename_i v hp1 h1
        rw [PV.force_eq, forceL_eq] at h
        simp only [hw, h1] at hun
        exact mk ⟨putT s.tmps o.dst v, hp1⟩ true v hw (fun _ => h1) (fun e => by cases e) rfl h hun.2 (fun _ => hun.1)
      · cases h
    · rename_i hw
      simp only [hw] at hun
      exact mk ⟨putT s.tmps o.dst (.tup []), s.hp⟩ false (.tup []) hw (fun e => by cases e) (fun _ => ⟨rfl, rfl⟩) rfl h hun (fun e => by cases e)
    · cases h
theorem tr_make {P : Program} {G : Nat → List PV} {C : Orc} {ops : Array Oper} {s s' : PS} (h : pseqD P G C ops ops.toList s = some s') (hu : Unt P G C ops 0 ops.toList s) : ∃ tr vv bb, Tr P G C ops s s' tr vv bb := by
  obtain ⟨tr, vv, bb, e1, e2, e3⟩ := tr_of ops.toList 0 s s' (fun i => by simp) h hu
  refine ⟨tr, vv, bb, e1, by simpa using e2, fun i o ho => (e3 i o (by omega) ho).1, fun i o ho => (e3 i o (by omega) ho).2.1, fun i o ho => (e3 i o (by omega) ho).2.2.1, fun i o ho => (e3 i o (by omega) ho).2.2.2.1, fun i o ho => (e3 i o (by omega) ho).2.2.2.2⟩
/-- the slots behind the operations of D -/
def cur (ops : Array Oper) (D : Nat → Bool) (vv : Nat → PV) (s : PS) : Nat → Nat → PV
  | 0, t => getT s.tmps t
  | i + 1, t => if D i = true ∧ t < s.tmps.length ∧ (ops[i]?).bind (·.dst) = some t then vv i else cur ops D vv s i t

section
variable {P : Program} {G : Nat → List PV} {C : Orc} {ops : Array Oper} {s s' : PS} {tr : Nat → PS} {vv : Nat → PV} {bb : Nat → Bool}
def wrt (ops : Array Oper) (i t : Nat) : Prop := (ops[i]?).bind (·.dst) = some t
instance (ops : Array Oper) (i t : Nat) : Decidable (wrt ops i t) := inferInstanceAs (Decidable (_ = _))
theorem Tr.len (T : Tr P G C ops s s' tr vv bb) : ∀ i, i ≤ ops.size → (tr i).tmps.length = s.tmps.length := by
  intro i
  induction i with
  | zero => intro _; rw [T.first]
  | succ i ih =>
    intro hi
    have ho : ops[i]? = some ops[i] := Array.getElem?_eq_getElem (by omega)
    rw [T.put i _ ho]
    exact (putT_n _ _ _).trans (ih (by omega))
theorem Tr.get (T : Tr P G C ops s s' tr vv bb) {i t : Nat} (hi : i < ops.size) : getT (tr (i + 1)).tmps t = if t < s.tmps.length ∧ wrt ops i t then vv i else getT (tr i).tmps t := by
  have ho : ops[i]? = some ops[i] := Array.getElem?_eq_getElem hi
  rw [T.put i _ ho]
  have hl : (tr i).tmps.n = s.tmps.n := T.len i (by omega)
  have hw : wrt ops i t ↔ ops[i].dst = some t := by unfold wrt; rw [ho]; rfl
  rw [putT_get, hl]
  by_cases hd : ops[i].dst = some t
  · by_cases hlt : t < s.tmps.n
    · rw [if_pos ⟨hlt, hd⟩, if_pos ⟨hlt, hw.2 hd⟩]
    · rw [if_neg (fun e => hlt e.1), if_neg (fun e => hlt e.1)]
  · rw [if_neg (fun e => hd e.2), if_neg (fun e => hd (hw.1 e.2))]
theorem cur_tr (T : Tr P G C ops s s' tr vv bb) {D : Nat → Bool} {m t : Nat} (hm : m ≤ ops.size) (h : ∀ j, j < ops.size → wrt ops j t → (D j = true ↔ j < m)) : ∀ k, k ≤ ops.size → cur ops D vv s k t = getT (tr (min k m)).tmps t := by
  intro k
  induction k with
  | zero => intro _; simp [cur, T.first]
  | succ k ih =>
    intro hk
    have ih' := ih (by omega)
    simp only [cur]
    by_cases hw : wrt ops k t
    · have hD := h k (by omega) hw
      by_cases hkm : k < m
      · rw [Nat.min_eq_left (by omega), T.get (by omega)]
        rw [Nat.min_eq_left (by omega)] at ih'
        have hD' := hD.2 hkm
        simp only [hD', true_and]
        by_cases hl : t < s.tmps.length
        · rw [if_pos ⟨hl, hw⟩, if_pos ⟨hl, hw⟩]
        · rw [if_neg (fun e => hl e.1), if_neg (fun e => hl e.1)]
          exact ih'
      · rw [if_neg (fun e => hkm (hD.1 e.1)), ih']
        rw [Nat.min_eq_right (by omega), Nat.min_eq_right (by omega)]
    · rw [if_neg (fun e => hw e.2.2), ih']
      by_cases hkm : k < m
      · rw [Nat.min_eq_left (by omega), Nat.min_eq_left (by omega), T.get (by omega), if_neg (fun e => hw e.2)]
      · rw [Nat.min_eq_right (by omega), Nat.min_eq_right (by omega)]
theorem cur_more {D D' : Nat → Bool} {i t : Nat} (hD : ∀ j, j ≠ i → D' j = D j) (hi : D' i = true) (h0 : D i = false) (h : ∀ j, i < j → j < ops.size → wrt ops j t → wrt ops i t → D j = false) : ∀ k, k ≤ ops.size → cur ops D' vv s k t = if i < k ∧ t < s.tmps.length ∧ wrt ops i t then vv i else cur ops D vv s k t := by
  intro k
  induction k with
  | zero => intro _; simp [cur]
  | succ k ih =>
    intro hk
    have ih' := ih (by omega)
    simp only [cur]
    by_cases hki : k = i
    · subst hki
      rw [hi, h0]
      rw [if_neg (show ¬(k < k ∧ _) from fun e => absurd e.1 (Nat.lt_irrefl _))] at ih'
      by_cases hc : t < s.tmps.length ∧ wrt ops k t
      · rw [if_pos ⟨rfl, hc⟩, if_pos ⟨by omega, hc⟩]
      · rw [if_neg (fun e => hc e.2), if_neg (fun e => hc e.2), if_neg (fun e => by cases e.1), ih']
    · rw [hD k hki]
      by_cases hc : i < k + 1 ∧ t < s.tmps.length ∧ wrt ops i t
      · have hik : i < k := by omega
        rw [if_pos hc]
        rw [if_pos ⟨hik, hc.2⟩] at ih'
        rw [if_neg (fun e => by have := h k hik (by omega) e.2.2 hc.2.2; rw [this] at e; cases e.1)]
        exact ih'
      · rw [if_neg hc]
        rw [if_neg (fun e => hc ⟨by omega, e.2⟩)] at ih'
        rw [ih']
end
end Go.Proofs.YtfhojpnofmlkdaaDoor.Pv
