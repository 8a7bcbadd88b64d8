/- Reading with values that are not known: a guide says where a bool is open, which value an operation has, how a loop ends; what is left to show is a tree. -/
import Derived.Test.YtfhojpnofmlkdaaDoorPvL
namespace Go.Proofs.YtfhojpnofmlkdaaDoor.Pv
open Go.RowKit
set_option linter.unusedSimpArgs false
set_option linter.unusedVariables false
set_option maxHeartbeats 1000000

inductive Gd where
  | e
  | x
  | n (k : Nat) (g : Gd)
  | s (t f : Gd)
  | v (v : PV) (g : Gd)
  | w (v : PV) (hp : List Box) (g : Gd)
  | l (e : PE) (s : PS) (g : Gd)
  | u (g : Gd)
  | k (js ids : List Nat) (hd : PS) (e : PE) (s : PS) (g : Gd)
  | c (b : Bool) (g1 g2 : Gd)
  | z (g1 g2 : Gd)
  | f (U : List (Nat × Nat)) (g : Gd)
inductive TT (α : Type) where
  | fail
  | done (a : α)
  | ask (b : Bool) (t f : TT α)
  | eq (p : Option (PV × List Box)) (v : PV) (hp : List Box) (t : TT α)
  | lp (p : Option (PE × PS)) (e : PE) (s : PS) (t : TT α)
  | pend (d : Nat) (p : Option (PV × List Box)) (k : PV → List Box → TT α)
  | pendl (s : PS) (k : PE → PS → TT α) (un : TT α)
  | sem (p : Prop) (t : TT α)
  | pendq (key : Nat) (s : PS) (k : Gd → TT α)
  | both (es : List PV) (t f : TT α)
  | pendz (es : List PV) (t f pl : TT α)
def Holds {α : Type} (Q : α → Prop) : TT α → Prop
  | .fail => False
  | .done a => Q a
  | .ask b t f => (b = true → Holds Q t) ∧ (b = false → Holds Q f)
  | .eq p v hp t => p = some (v, hp) ∧ Holds Q t
  | .lp p e s t => p = some (e, s) ∧ Holds Q t
  | .pend _ _ _ => False
  | .pendl _ _ _ => False
  | .sem p t => p ∧ Holds Q t
  | .pendq _ _ _ => False
  | .both es t f => (es = [] → Holds Q t) ∧ Holds Q f
  | .pendz _ _ _ _ => False
def nx (m : Nat) (g : Gd) : Gd := match m with | 0 => g | m + 1 => .n (m + 1) g
/-- the head of a value laid out, its numbers as they stand -/
def PV.forceS {β : Type} (v : PV) (k : PV → β) : β :=
  match v with
  | .any => k .any
  | .bool b => k (.bool b)
  | .int kd n => k (.int kd n)
  | .str s => k (.str s)
  | .agg cs => forceL cs fun cs => k (.agg cs)
  | .tup cs => forceL cs fun cs => k (.tup cs)
  | .nils => k .nils
  | .emp => k .emp
  | .lst sz es => k (.lst sz es)
  | .sl id sz off len => k (.sl id sz off len)
  | .cptr cs => forceL cs fun cs => k (.cptr cs)
  | .ptr id off => k (.ptr id off)
  | .nilp => k .nilp
  | .fn f cs => forceL cs fun cs => k (.fn f cs)
  | .nilfn => k .nilfn
  | .ifc t v => k (.ifc t v)
  | .nilifc => k .nilifc
  | .own id sz es => k (.own id sz es)
theorem PV.forceS_eq {β : Type} (v : PV) (k : PV → β) : v.forceS k = k v := by
  cases v <;> simp only [PV.forceS, forceL_eq]
/-- a bool that is known, laid out -/
def PV.forceB {β : Type} (v : PV) (k : PV → β) : β :=
  match v with
  | .bool b => match b with | true => k (.bool true) | false => k (.bool false)
  | v => v.forceS k
theorem PV.forceB_eq {β : Type} (v : PV) (k : PV → β) : v.forceB k = k v := by
  unfold PV.forceB
  split
  · rename_i b; cases b <;> rfl
  · exact PV.forceS_eq _ _
def con : Op → Bool
  | .binOp op _ _ _ _ => match op with | .eql | .neq | .lss | .leq | .gtr | .geq | .quo | .rem | .shl | .shr => true | _ => false
  | .call _ => true
  | .extract _ _ => true
  | .field _ _ _ => true
  | .index _ _ _ => true
  | .indexAddr _ _ _ => true
  | .slice _ _ _ _ _ => true
  | .load _ _ => true
  | .store _ _ _ => true
  | .makeSlice _ _ _ => true
  | .convert _ _ _ => true
  | .fieldAddr _ _ _ => true
  | _ => false
abbrev PP := Bool → (Operand → PV) → List Box → Op → Option (PV × List Box)
def popS (P : Program) (C : Orc) : PP := fun _ => pop P C
def pseqP (G : Nat → List PV) (pp : PP) (ops : Array Oper) : List Oper → PS → Option PS
  | [], s => some s
  | o :: rest, s =>
    match pwant ops s.tmps o with
    | some true =>
      match pp (isF ops o) (evP G s.tmps) s.hp o.op with
      | some (v, hp') => pseqP G pp ops rest ⟨putT s.tmps o.dst v, hp'⟩
      | none => none
    | some false => pseqP G pp ops rest ⟨putT s.tmps o.dst (.tup []), s.hp⟩
    | none => none
theorem pseqP_pop (P : Program) (G : Nat → List PV) (C : Orc) (ops : Array Oper) : ∀ (l : List Oper) (s : PS), pseqP G (popS P C) ops l s = pseq P G C ops l s
  | [], s => rfl
  | o :: rest, s => by
    unfold pseqP pseq
    cases h1 : pwant ops s.tmps o with
    | none => simp only
    | some b =>
      cases b
      · exact pseqP_pop P G C ops rest _
      · show (match pop P C (evP G s.tmps) s.hp o.op with | some (v, hp') => pseqP G (popS P C) ops rest ⟨putT s.tmps o.dst v, hp'⟩ | none => none) = _
        cases h : pop P C (evP G s.tmps) s.hp o.op with
        | none => simp only
        | some x => simp only [PV.force_eq, forceL_eq]; exact pseqP_pop P G C ops rest _
theorem pseqP_popD (P : Program) (G : Nat → List PV) (C : Orc) (ops : Array Oper) : ∀ (l : List Oper) (s : PS), pseqP G (popD P C) ops l s = pseqD P G C ops l s
  | [], s => rfl
  | o :: rest, s => by
    unfold pseqP pseqD
    cases h1 : pwant ops s.tmps o with
    | none => simp only
    | some b =>
      cases b
      · exact pseqP_popD P G C ops rest _
      · cases h : popD P C (isF ops o) (evP G s.tmps) s.hp o.op with
        | none => simp only
        | some x => simp only [PV.force_eq, forceL_eq]; exact pseqP_popD P G C ops rest _
def gseq {α : Type} (G : Nat → List PV) (pp : PP) (ops : Array Oper) : List Oper → PS → Gd → (PS → Gd → TT α) → TT α
  | [], s, g, k => k s g
  | o :: rest, s, g, k =>
    match pwant ops s.tmps o with
    | some true =>
      match con o.op with
      | true =>
        match g with
        | .n m g =>
          match pp (isF ops o) (evP G s.tmps) s.hp o.op with
          | some (v, hp') => v.forceB fun v => forceL hp' fun hp' => gseq G pp ops rest ⟨putT s.tmps o.dst v, hp'⟩ (nx (m - 1) g) k
          | none => .fail
        | .s g1 g2 =>
          match pp (isF ops o) (evP G s.tmps) s.hp o.op with
          | some (.bool b, hp') => forceL hp' fun hp' => .ask b (gseq G pp ops rest ⟨putT s.tmps o.dst (.bool true), hp'⟩ g1 k) (gseq G pp ops rest ⟨putT s.tmps o.dst (.bool false), hp'⟩ g2 k)
          | _ => .fail
        | .v v g => .eq (pp (isF ops o) (evP G s.tmps) s.hp o.op) v s.hp (gseq G pp ops rest ⟨putT s.tmps o.dst v, s.hp⟩ g k)
        | .w v hp' g => .eq (pp (isF ops o) (evP G s.tmps) s.hp o.op) v hp' (gseq G pp ops rest ⟨putT s.tmps o.dst v, hp'⟩ g k)
        | .c t (.v v1 g1) (.v v2 g2) => .ask t (.eq (pp (isF ops o) (evP G s.tmps) s.hp o.op) v1 s.hp (gseq G pp ops rest ⟨putT s.tmps o.dst v1, s.hp⟩ g1 k)) (.eq (pp (isF ops o) (evP G s.tmps) s.hp o.op) v2 s.hp (gseq G pp ops rest ⟨putT s.tmps o.dst v2, s.hp⟩ g2 k))
        | .x => .pend (o.dst.getD 999999) (pp (isF ops o) (evP G s.tmps) s.hp o.op) fun v hp' => forceL hp' fun hp' => gseq G pp ops rest ⟨putT s.tmps o.dst v, hp'⟩ .x k
        | _ => .fail
      | false =>
        match pp (isF ops o) (evP G s.tmps) s.hp o.op with
        | some (v, hp') => v.forceS fun v => forceL hp' fun hp' => gseq G pp ops rest ⟨putT s.tmps o.dst v, hp'⟩ g k
        | none => .fail
    | some false => gseq G pp ops rest ⟨putT s.tmps o.dst (.tup []), s.hp⟩ g k
    | none => .fail
theorem gseq_sound {α : Type} {Q : α → Prop} (G : Nat → List PV) (pp : PP) (ops : Array Oper) : ∀ (l : List Oper) (s : PS) (g : Gd) (k : PS → Gd → TT α),
    Holds Q (gseq G pp ops l s g k) → ∃ s' g', pseqP G pp ops l s = some s' ∧ Holds Q (k s' g')
  | [], s, g, k, h => ⟨s, g, rfl, h⟩
  | o :: rest, s, g, k, h => by
    unfold gseq at h
    unfold pseqP
    cases h1 : pwant ops s.tmps o with
    | none => rw [h1] at h; exact h.elim
    | some b =>
      rw [h1] at h
      cases b
      · exact gseq_sound G pp ops rest _ _ _ h
      · simp only at h
        simp only
        split at h
        · split at h
          · split at h
            · rename_i v hp' e
              rw [PV.forceB_eq, forceL_eq] at h
              try rw [e]
              exact gseq_sound G pp ops rest _ _ _ h
            · exact h.elim
          · split at h
            · rename_i b hp' e
              rw [forceL_eq] at h
              try rw [e]
              cases b
              · exact gseq_sound G pp ops rest _ _ _ (h.2 rfl)
              · exact gseq_sound G pp ops rest _ _ _ (h.1 rfl)
            · exact h.elim
          · rw [h.1]; exact gseq_sound G pp ops rest _ _ _ h.2
          · rw [h.1]; exact gseq_sound G pp ops rest _ _ _ h.2
          · rename_i t v1 g1 v2 g2
            cases t with
            | false => have h := h.2 rfl; rw [h.1]; exact gseq_sound G pp ops rest _ _ _ h.2
            | true => have h := h.1 rfl; rw [h.1]; exact gseq_sound G pp ops rest _ _ _ h.2
          · exact h.elim
          · exact h.elim
        · split at h
          · rename_i v hp' e
            rw [PV.forceS_eq, forceL_eq] at h
            try rw [e]
            exact gseq_sound G pp ops rest _ _ _ h
          · exact h.elim
/-- who writes boxes leaves those -/
def emU {α : Type} (C : Orc) (ops : Array Oper) (k : Nat) (o : Oper) (a b : List Box) (t : TT α) : TT α := match kindO C.hs ops o == 3 with | true => if C.un.isEmpty = true then t else .sem (sameU (unord C.hs ops k) C.un a b) t | false => t
theorem emU_holds {α : Type} {Q : α → Prop} {C : Orc} {ops : Array Oper} {k : Nat} {o : Oper} {a b : List Box} {t : TT α} (h : Holds Q (emU C ops k o a b t)) : (kindO C.hs ops o = 3 → sameU (unord C.hs ops k) C.un a b) ∧ Holds Q t := by
  unfold emU at h
  split at h
  · split at h
    · rename_i e
      have e1 : C.un = [] := List.isEmpty_iff.1 e
      exact ⟨fun _ => by rw [e1]; trivial, h⟩
    · exact ⟨fun _ => h.1, h.2⟩
  · rename_i e; exact ⟨(fun hk => by rw [hk] at e; cases e), h⟩
/-- a region whose order is drawn; some boxes are read out of turn -/
def gseqU {α : Type} (P : Program) (G : Nat → List PV) (C : Orc) (ops : Array Oper) : Nat → List Oper → PS → Gd → (PS → Gd → TT α) → TT α
  | _, [], s, g, k => k s g
  | j, o :: rest, s, g, k =>
    match pwant ops s.tmps o with
    | some true =>
      match con o.op with
      | true =>
        match g with
        | .n m g =>
          match popD P C (isF ops o) (evP G s.tmps) s.hp o.op with
          | some (v, hp') => emU C ops j o s.hp hp' (v.forceB fun v => forceL hp' fun hp' => gseqU P G C ops (j + 1) rest ⟨putT s.tmps o.dst v, hp'⟩ (nx (m - 1) g) k)
          | none => .fail
        | .s g1 g2 =>
          match popD P C (isF ops o) (evP G s.tmps) s.hp o.op with
          | some (.bool b, hp') => emU C ops j o s.hp hp' (forceL hp' fun hp' => .ask b (gseqU P G C ops (j + 1) rest ⟨putT s.tmps o.dst (.bool true), hp'⟩ g1 k) (gseqU P G C ops (j + 1) rest ⟨putT s.tmps o.dst (.bool false), hp'⟩ g2 k))
          | _ => .fail
        | .v v g => .eq (popD P C (isF ops o) (evP G s.tmps) s.hp o.op) v s.hp (emU C ops j o s.hp s.hp (gseqU P G C ops (j + 1) rest ⟨putT s.tmps o.dst v, s.hp⟩ g k))
        | .w v hp' g => .eq (popD P C (isF ops o) (evP G s.tmps) s.hp o.op) v hp' (emU C ops j o s.hp hp' (gseqU P G C ops (j + 1) rest ⟨putT s.tmps o.dst v, hp'⟩ g k))
        | .c t (.v v1 g1) (.v v2 g2) => .ask t (.eq (popD P C (isF ops o) (evP G s.tmps) s.hp o.op) v1 s.hp (emU C ops j o s.hp s.hp (gseqU P G C ops (j + 1) rest ⟨putT s.tmps o.dst v1, s.hp⟩ g1 k))) (.eq (popD P C (isF ops o) (evP G s.tmps) s.hp o.op) v2 s.hp (emU C ops j o s.hp s.hp (gseqU P G C ops (j + 1) rest ⟨putT s.tmps o.dst v2, s.hp⟩ g2 k)))
        | .x => .pend (o.dst.getD 999999) (popD P C (isF ops o) (evP G s.tmps) s.hp o.op) fun v hp' => emU C ops j o s.hp hp' (forceL hp' fun hp' => gseqU P G C ops (j + 1) rest ⟨putT s.tmps o.dst v, hp'⟩ .x k)
        | _ => .fail
      | false =>
        match popD P C (isF ops o) (evP G s.tmps) s.hp o.op with
        | some (v, hp') => emU C ops j o s.hp hp' (v.forceS fun v => forceL hp' fun hp' => gseqU P G C ops (j + 1) rest ⟨putT s.tmps o.dst v, hp'⟩ g k)
        | none => .fail
    | some false => gseqU P G C ops (j + 1) rest ⟨putT s.tmps o.dst (.tup []), s.hp⟩ g k
    | none => .fail
theorem gseqU_sound {α : Type} {Q : α → Prop} (P : Program) (G : Nat → List PV) (C : Orc) (ops : Array Oper) : ∀ (j : Nat) (l : List Oper) (s : PS) (g : Gd) (k : PS → Gd → TT α),
    Holds Q (gseqU P G C ops j l s g k) → ∃ s' g', pseqD P G C ops l s = some s' ∧ Unt P G C ops j l s ∧ Holds Q (k s' g')
  | _, [], s, g, k, h => ⟨s, g, rfl, trivial, h⟩
  | j, o :: rest, s, g, k, h => by
    unfold gseqU at h
    unfold pseqD Unt
    have key : ∀ (v : PV) (hp' : List Box) (g1 : Gd), popD P C (isF ops o) (evP G s.tmps) s.hp o.op = some (v, hp') → (kindO C.hs ops o = 3 → sameU (unord C.hs ops j) C.un s.hp hp') → Holds Q (gseqU P G C ops (j + 1) rest ⟨putT s.tmps o.dst v, hp'⟩ g1 k) →
        ∃ s' g', (match popD P C (isF ops o) (evP G s.tmps) s.hp o.op with | some (v, hp') => v.force fun v => forceL hp' fun hp' => pseqD P G C ops rest ⟨putT s.tmps o.dst v, hp'⟩ | none => none) = some s' ∧ (match popD P C (isF ops o) (evP G s.tmps) s.hp o.op with | some (v, hp') => (kindO C.hs ops o = 3 → sameU (unord C.hs ops j) C.un s.hp hp') ∧ Unt P G C ops (j + 1) rest ⟨putT s.tmps o.dst v, hp'⟩ | none => True) ∧ Holds Q (k s' g') := fun v hp' g1 e hs h => by
      obtain ⟨s', g', q1, q2, q3⟩ := gseqU_sound P G C ops (j + 1) rest _ _ _ h
      rw [e]
      simp only [PV.force_eq, forceL_eq]
      exact ⟨s', g', q1, ⟨hs, q2⟩, q3⟩
    cases h1 : pwant ops s.tmps o with
    | none => rw [h1] at h; exact h.elim
    | some b =>
      rw [h1] at h
      cases b
      · exact gseqU_sound P G C ops (j + 1) rest _ _ _ h
      · simp only at h
        simp only
        split at h
        · split at h
          · split at h
            · rename_i v hp' e
              obtain ⟨hs, h⟩ := emU_holds h
              rw [PV.forceB_eq, forceL_eq] at h
              exact key _ _ _ e hs h
            · exact h.elim
          · split at h
            · rename_i b hp' e
              obtain ⟨hs, h⟩ := emU_holds h
              rw [forceL_eq] at h
              cases b
              · exact key _ _ _ e hs (h.2 rfl)
              · exact key _ _ _ e hs (h.1 rfl)
            · exact h.elim
          · obtain ⟨e, h⟩ := h; obtain ⟨hs, h⟩ := emU_holds h; exact key _ _ _ e hs h
          · obtain ⟨e, h⟩ := h; obtain ⟨hs, h⟩ := emU_holds h; exact key _ _ _ e hs h
          · rename_i t v1 g1 v2 g2
            cases t with
            | false => obtain ⟨e, h⟩ := h.2 rfl; obtain ⟨hs, h⟩ := emU_holds h; exact key _ _ _ e hs h
            | true => obtain ⟨e, h⟩ := h.1 rfl; obtain ⟨hs, h⟩ := emU_holds h; exact key _ _ _ e hs h
          · exact h.elim
          · exact h.elim
        · split at h
          · rename_i v hp' e
            obtain ⟨hs, h⟩ := emU_holds h
            rw [PV.forceS_eq, forceL_eq] at h
            exact key _ _ _ e hs h
          · exact h.elim
def giter {α : Type} (b : PS → Gd → (PE → PS → Gd → TT α) → TT α) : Nat → PS → Gd → (PE → PS → Gd → TT α) → TT α
  | 0, _, _, _ => .fail
  | m + 1, s, g, k => b s g fun e s g => match e with | .normal => giter b m s g k | e => k e s g
theorem iter_mono (b : PS → Option (PE × PS)) : ∀ (m n : Nat) (s : PS) r, m ≤ n → iter b m s = some r → iter b n s = some r
  | 0, _, _, _, _, h => by simp [iter] at h
  | m + 1, 0, _, _, hn, _ => by omega
  | m + 1, n + 1, s, r, hn, h => by
    unfold iter at h ⊢
    split at h
    · rename_i s' e
      try rw [e]
      exact iter_mono b m n s' r (by omega) h
    · rename_i hx
      rw [h]
/-- a loop, from its head -/
def iterH (b : PS → Option (PE × PS)) (h : PS → PS) : Nat → PS → Option (PE × PS)
  | 0, _ => none
  | n + 1, t =>
    match b t with
    | some (.normal, s') => iterH b h n (h s')
    | r => r
theorem iter_head (b : PS → Option (PE × PS)) (h : PS → PS) : ∀ (n : Nat) (s : PS), iter (fun s => b (h s)) n s = iterH b h n (h s)
  | 0, _ => rfl
  | n + 1, s => by
    unfold iter iterH
    cases e : b (h s) with
    | none => rfl
    | some x =>
      cases x with | mk e1 s1 =>
      cases e1
      · exact iter_head b h n s1
      · rfl
      · rfl
/-- one round, from its head -/
def pround (P : Program) (X : Cfg) (C : Orc) (lv : Nat → Option (List Nat)) (n0 fuel : Nat) (b : Code) (t : PS) : Option (PE × PS) := (pcode P X C lv n0 fuel b t).map fun x => (x.1, xs n0 lv b x.1 x.2)
/-- the body of the loop whose first region has number r -/
def lpOf (r : Nat) : Code → Option Code
  | .loop b => if fr b = r then some b else lpOf r b
  | .seq a b => match lpOf r a with | some x => some x | none => lpOf r b
  | .cond _ a b => match lpOf r a with | some x => some x | none => lpOf r b
  | .block _ b => lpOf r b
  | .scope b => lpOf r b
  | _ => none
def lpB (fn : Func) (r : Nat) : Code := match fn.body with | some c => (lpOf r c).getD .skip | none => .skip
end Go.Proofs.YtfhojpnofmlkdaaDoor.Pv
