/- Reading with values that are not known: a guide says where a bool is open, which value an operation has, how a loop ends; what is left to show is a tree. -/
import Derived.Test.YtkfmhmkeikhdbaaDoorPvL
namespace Go.Proofs.YtkfmhmkeikhdbaaDoor.Pv
open Go.RowKit
set_option linter.unusedSimpArgs false
set_option linter.unusedVariables false
set_option maxHeartbeats 1000000

inductive Gd where
  | e
  | x
  | n (k : Nat) (g : Gd)
  | s (t f : Gd)
  | v (v : PV) (g : Gd)
  | w (v : PV) (hp : List Box) (g : Gd)
  | l (e : PE) (s : PS) (g : Gd)
  | u (g : Gd)
  | k (js ids : List Nat) (hd : PS) (e : PE) (s : PS) (g : Gd)
  | c (b : Bool) (g1 g2 : Gd)
  | z (g1 g2 : Gd)
inductive TT (α : Type) where
  | fail
  | done (a : α)
  | ask (b : Bool) (t f : TT α)
  | eq (p : Option (PV × List Box)) (v : PV) (hp : List Box) (t : TT α)
  | lp (p : Option (PE × PS)) (e : PE) (s : PS) (t : TT α)
  | pend (d : Nat) (p : Option (PV × List Box)) (k : PV → List Box → TT α)
  | pendl (s : PS) (k : PE → PS → TT α) (un : TT α)
  | sem (p : Prop) (t : TT α)
  | pendq (key : Nat) (s : PS) (k : Gd → TT α)
  | both (es : List PV) (t f : TT α)
  | pendz (es : List PV) (t f pl : TT α)
def Holds {α : Type} (Q : α → Prop) : TT α → Prop
  | .fail => False
  | .done a => Q a
  | .ask b t f => (b = true → Holds Q t) ∧ (b = false → Holds Q f)
  | .eq p v hp t => p = some (v, hp) ∧ Holds Q t
  | .lp p e s t => p = some (e, s) ∧ Holds Q t
  | .pend _ _ _ => False
  | .pendl _ _ _ => False
  | .sem p t => p ∧ Holds Q t
  | .pendq _ _ _ => False
  | .both es t f => (es = [] → Holds Q t) ∧ Holds Q f
  | .pendz _ _ _ _ => False
def nx (m : Nat) (g : Gd) : Gd := match m with | 0 => g | m + 1 => .n (m + 1) g
/-- the head of a value laid out, its numbers as they stand -/
def PV.forceS {β : Type} (v : PV) (k : PV → β) : β :=
  match v with
  | .any => k .any
  | .bool b => k (.bool b)
  | .int kd n => k (.int kd n)
  | .str s => k (.str s)
  | .agg cs => forceL cs fun cs => k (.agg cs)
  | .tup cs => forceL cs fun cs => k (.tup cs)
  | .nils => k .nils
  | .emp => k .emp
  | .lst sz es => k (.lst sz es)
  | .sl id sz off len => k (.sl id sz off len)
  | .cptr cs => forceL cs fun cs => k (.cptr cs)
  | .ptr id off => k (.ptr id off)
  | .nilp => k .nilp
  | .fn f cs => forceL cs fun cs => k (.fn f cs)
  | .nilfn => k .nilfn
  | .ifc t v => k (.ifc t v)
  | .nilifc => k .nilifc
theorem PV.forceS_eq {β : Type} (v : PV) (k : PV → β) : v.forceS k = k v := by
  cases v <;> simp only [PV.forceS, forceL_eq]
/-- a bool that is known, laid out -/
def PV.forceB {β : Type} (v : PV) (k : PV → β) : β :=
  match v with
  | .bool b => match b with | true => k (.bool true) | false => k (.bool false)
  | v => v.forceS k
theorem PV.forceB_eq {β : Type} (v : PV) (k : PV → β) : v.forceB k = k v := by
  unfold PV.forceB
  split
  · rename_i b; cases b <;> rfl
  · exact PV.forceS_eq _ _
def con : Op → Bool
  | .binOp op _ _ _ _ => match op with | .eql | .neq | .lss | .leq | .gtr | .geq | .quo | .rem | .shl | .shr => true | _ => false
  | .call _ => true
  | .extract _ _ => true
  | .field _ _ _ => true
  | .index _ _ _ => true
  | .indexAddr _ _ _ => true
  | .slice _ _ _ _ _ => true
  | .load _ _ => true
  | .store _ _ _ => true
  | .makeSlice _ _ _ => true
  | .convert _ _ _ => true
  | .fieldAddr _ _ _ => true
  | _ => false
abbrev PP := Bool → (Operand → PV) → List Box → Op → Option (PV × List Box)
def popS (P : Program) (C : Orc) : PP := fun _ => pop P C
def pseqP (G : Nat → List PV) (pp : PP) (ops : Array Oper) : List Oper → PS → Option PS
  | [], s => some s
  | o :: rest, s =>
    match pwant ops s.tmps o with
    | some true =>
      match pp (isF ops o) (evP G s.tmps) s.hp o.op with
      | some (v, hp') => pseqP G pp ops rest ⟨putT s.tmps o.dst v, hp'⟩
      | none => none
    | some false => pseqP G pp ops rest ⟨putT s.tmps o.dst (.tup []), s.hp⟩
    | none => none
theorem pseqP_pop (P : Program) (G : Nat → List PV) (C : Orc) (ops : Array Oper) : ∀ (l : List Oper) (s : PS), pseqP G (popS P C) ops l s = pseq P G C ops l s
  | [], s => rfl
  | o :: rest, s => by
    unfold pseqP pseq
    cases h1 : pwant ops s.tmps o with
    | none => simp only
    | some b =>
      cases b
      · exact pseqP_pop P G C ops rest _
      · show (match pop P C (evP G s.tmps) s.hp o.op with | some (v, hp') => pseqP G (popS P C) ops rest ⟨putT s.tmps o.dst v, hp'⟩ | none => none) = _
        cases h : pop P C (evP G s.tmps) s.hp o.op with
        | none => simp only
        | some x => simp only [PV.force_eq, forceL_eq]; exact pseqP_pop P G C ops rest _
theorem pseqP_popD (P : Program) (G : Nat → List PV) (C : Orc) (ops : Array Oper) : ∀ (l : List Oper) (s : PS), pseqP G (popD P C) ops l s = pseqD P G C ops l s
  | [], s => rfl
  | o :: rest, s => by
    unfold pseqP pseqD
    cases h1 : pwant ops s.tmps o with
    | none => simp only
    | some b =>
      cases b
      · exact pseqP_popD P G C ops rest _
      · cases h : popD P C (isF ops o) (evP G s.tmps) s.hp o.op with
        | none => simp only
        | some x => simp only [PV.force_eq, forceL_eq]; exact pseqP_popD P G C ops rest _
def gseq {α : Type} (G : Nat → List PV) (pp : PP) (ops : Array Oper) : List Oper → PS → Gd → (PS → Gd → TT α) → TT α
  | [], s, g, k => k s g
  | o :: rest, s, g, k =>
    match pwant ops s.tmps o with
    | some true =>
      match con o.op with
      | true =>
        match g with
        | .n m g =>
          match pp (isF ops o) (evP G s.tmps) s.hp o.op with
          | some (v, hp') => v.forceB fun v => forceL hp' fun hp' => gseq G pp ops rest ⟨putT s.tmps o.dst v, hp'⟩ (nx (m - 1) g) k
          | none => .fail
        | .s g1 g2 =>
          match pp (isF ops o) (evP G s.tmps) s.hp o.op with
          | some (.bool b, hp') => forceL hp' fun hp' => .ask b (gseq G pp ops rest ⟨putT s.tmps o.dst (.bool true), hp'⟩ g1 k) (gseq G pp ops rest ⟨putT s.tmps o.dst (.bool false), hp'⟩ g2 k)
          | _ => .fail
        | .v v g => .eq (pp (isF ops o) (evP G s.tmps) s.hp o.op) v s.hp (gseq G pp ops rest ⟨putT s.tmps o.dst v, s.hp⟩ g k)
        | .w v hp' g => .eq (pp (isF ops o) (evP G s.tmps) s.hp o.op) v hp' (gseq G pp ops rest ⟨putT s.tmps o.dst v, hp'⟩ g k)
        | .c t (.v v1 g1) (.v v2 g2) => .ask t (.eq (pp (isF ops o) (evP G s.tmps) s.hp o.op) v1 s.hp (gseq G pp ops rest ⟨putT s.tmps o.dst v1, s.hp⟩ g1 k)) (.eq (pp (isF ops o) (evP G s.tmps) s.hp o.op) v2 s.hp (gseq G pp ops rest ⟨putT s.tmps o.dst v2, s.hp⟩ g2 k))
        | .x => .pend (o.dst.getD 999999) (pp (isF ops o) (evP G s.tmps) s.hp o.op) fun v hp' => forceL hp' fun hp' => gseq G pp ops rest ⟨putT s.tmps o.dst v, hp'⟩ .x k
        | _ => .fail
      | false =>
        match pp (isF ops o) (evP G s.tmps) s.hp o.op with
        | some (v, hp') => v.forceS fun v => forceL hp' fun hp' => gseq G pp ops rest ⟨putT s.tmps o.dst v, hp'⟩ g k
        | none => .fail
    | some false => gseq G pp ops rest ⟨putT s.tmps o.dst (.tup []), s.hp⟩ g k
    | none => .fail
theorem gseq_sound {α : Type} {Q : α → Prop} (G : Nat → List PV) (pp : PP) (ops : Array Oper) : ∀ (l : List Oper) (s : PS) (g : Gd) (k : PS → Gd → TT α),
    Holds Q (gseq G pp ops l s g k) → ∃ s' g', pseqP G pp ops l s = some s' ∧ Holds Q (k s' g')
  | [], s, g, k, h => ⟨s, g, rfl, h⟩
  | o :: rest, s, g, k, h => by
    unfold gseq at h
    unfold pseqP
    cases h1 : pwant ops s.tmps o with
    | none => rw [h1] at h; exact h.elim
    | some b =>
      rw [h1] at h
      cases b
      · exact gseq_sound G pp ops rest _ _ _ h
      · simp only at h
        simp only
        split at h
        · split at h
          · split at h
            · rename_i v hp' e
              rw [PV.forceB_eq, forceL_eq] at h
              try rw [e]
              exact gseq_sound G pp ops rest _ _ _ h
            · exact h.elim
          · split at h
            · rename_i b hp' e
              rw [forceL_eq] at h
              try rw [e]
              cases b
              · exact gseq_sound G pp ops rest _ _ _ (h.2 rfl)
              · exact gseq_sound G pp ops rest _ _ _ (h.1 rfl)
            · exact h.elim
          · rw [h.1]; exact gseq_sound G pp ops rest _ _ _ h.2
          · rw [h.1]; exact gseq_sound G pp ops rest _ _ _ h.2
          · rename_i t v1 g1 v2 g2
            cases t with
            | false => have h := h.2 rfl; rw [h.1]; exact gseq_sound G pp ops rest _ _ _ h.2
            | true => have h := h.1 rfl; rw [h.1]; exact gseq_sound G pp ops rest _ _ _ h.2
          · exact h.elim
          · exact h.elim
        · split at h
          · rename_i v hp' e
            rw [PV.forceS_eq, forceL_eq] at h
            try rw [e]
            exact gseq_sound G pp ops rest _ _ _ h
          · exact h.elim
def giter {α : Type} (b : PS → Gd → (PE → PS → Gd → TT α) → TT α) : Nat → PS → Gd → (PE → PS → Gd → TT α) → TT α
  | 0, _, _, _ => .fail
  | m + 1, s, g, k => b s g fun e s g => match e with | .normal => giter b m s g k | e => k e s g
theorem iter_mono (b : PS → Option (PE × PS)) : ∀ (m n : Nat) (s : PS) r, m ≤ n → iter b m s = some r → iter b n s = some r
  | 0, _, _, _, _, h => by simp [iter] at h
  | m + 1, 0, _, _, hn, _ => by omega
  | m + 1, n + 1, s, r, hn, h => by
    unfold iter at h ⊢
    split at h
    · rename_i s' e
      try rw [e]
      exact iter_mono b m n s' r (by omega) h
    · rename_i hx
      rw [h]
/-- a loop, from its head -/
def iterH (b : PS → Option (PE × PS)) (h : PS → PS) : Nat → PS → Option (PE × PS)
  | 0, _ => none
  | n + 1, t =>
    match b t with
    | some (.normal, s') => iterH b h n (h s')
    | r => r
theorem iter_head (b : PS → Option (PE × PS)) (h : PS → PS) : ∀ (n : Nat) (s : PS), iter (fun s => b (h s)) n s = iterH b h n (h s)
  | 0, _ => rfl
  | n + 1, s => by
    unfold iter iterH
    cases e : b (h s) with
    | none => rfl
    | some x =>
      cases x with | mk e1 s1 =>
      cases e1
      · exact iter_head b h n s1
      · rfl
      · rfl
/-- one round, from its head -/
def pround (P : Program) (X : Cfg) (C : Orc) (lv : Nat → Option (List Nat)) (n0 fuel : Nat) (b : Code) (t : PS) : Option (PE × PS) := (pcode P X C lv n0 fuel b t).map fun x => (x.1, xs n0 lv b x.1 x.2)
def gcode {α : Type} (P : Program) (X : Cfg) (C : Orc) (lv : Nat → Option (List Nat)) (n0 fuel fu : Nat) : Code → PS → Gd → (PE → PS → Gd → TT α) → TT α
  | .skip, s, g, k => k .normal s g
  | .region _ ops draw, s, g, k =>
    match draw with
    | true => gseq X.G (popD P C) ops ops.toList s g fun s g => k .normal s g
    | false => gseq X.G (popS P C) ops ops.toList s g fun s g => k .normal s g
  | .seq x y, s, g, k => gcode P X C lv n0 fuel fu x s g fun e s g => match e with | .normal => gcode P X C lv n0 fuel fu y s g k | e => k e s g
  | .cond c x y, s, g, k =>
    match evP X.G s.tmps c with
    | .bool t => match t with | true => gcode P X C lv n0 fuel fu x s g k | false => gcode P X C lv n0 fuel fu y s g k
    | _ => .fail
  | .block id b, s, g, k => gcode P X C lv n0 fuel fu b s g fun e s g =>
      match e with
      | .exit i => if i = id then k .normal s g else k (.exit i) s g
      | .normal => k .normal s g
      | .ret => k .ret s g
  | .loop b, s, g, k =>
    match g with
    | .l e s' g => .lp (iterH (pround P X C lv n0 fuel b) (hd n0 lv b) fuel (hd n0 lv b s)) e s' (k e s' g)
    | .u g => giter (fun s g k => gcode P X C lv n0 fuel fu b (hd n0 lv b s) g fun e s g => k e (xs n0 lv b e s) g) fu s g k
    | .x => .pendl (hd n0 lv b s) (fun e s => k e s .x) (giter (fun s g k => gcode P X C lv n0 fuel fu b (hd n0 lv b s) g fun e s g => k e (xs n0 lv b e s) g) fu s .x k)
    | _ => .fail
  | .exit id, s, g, k => k (.exit id) s g
  | .ret, s, g, k => k .ret s g
  | _, _, _, _ => .fail
theorem gcode_sound {α : Type} {Q : α → Prop} {P : Program} {X : Cfg} {C : Orc} {lv : Nat → Option (List Nat)} {n0 fuel fu : Nat} (hf : fu ≤ fuel) (c : Code) : ∀ (s : PS) (g : Gd) (k : PE → PS → Gd → TT α),
    Holds Q (gcode P X C lv n0 fuel fu c s g k) → ∃ e s' g', pcode P X C lv n0 fuel c s = some (e, s') ∧ Holds Q (k e s' g') := by
  induction c with
  | skip => intro s g k h; exact ⟨.normal, s, g, rfl, h⟩
  | region id ops draw =>
    intro s g k h
    unfold gcode at h
    unfold pcode
    cases draw
    · obtain ⟨s', g', h1, h2⟩ := gseq_sound _ _ _ _ _ _ _ h
      rw [pseqP_pop] at h1
      exact ⟨.normal, s', g', by simp [h1], h2⟩
    · obtain ⟨s', g', h1, h2⟩ := gseq_sound _ _ _ _ _ _ _ h
      rw [pseqP_popD] at h1
      exact ⟨.normal, s', g', by simp [h1], h2⟩
  | seq x y ihx ihy =>
    intro s g k h
    unfold gcode at h
    unfold pcode
    obtain ⟨e, s', g', h1, h2⟩ := ihx _ _ _ h
    rw [h1]
    cases e with
    | normal => exact ihy _ _ _ h2
    | ret => exact ⟨_, _, _, rfl, h2⟩
    | exit i => exact ⟨_, _, _, rfl, h2⟩
  | cond c x y ihx ihy =>
    intro s g k h
    unfold gcode at h
    unfold pcode
    split at h
    · rename_i t e
      try rw [e]
      cases t
      · simpa using ihy _ _ _ h
      · simpa using ihx _ _ _ h
    · exact h.elim
  | block id b ih =>
    intro s g k h
    unfold gcode at h
    unfold pcode
    obtain ⟨e, s', g', h1, h2⟩ := ih _ _ _ h
    rw [h1]
    cases e with
    | normal => exact ⟨_, _, _, rfl, h2⟩
    | ret => exact ⟨_, _, _, rfl, h2⟩
    | exit i =>
      simp only at h2 ⊢
      split at h2
      · rename_i hi; rw [if_pos hi]; exact ⟨_, _, _, rfl, h2⟩
      · rename_i hi; rw [if_neg hi]; exact ⟨_, _, _, rfl, h2⟩
  | loop b ih =>
    intro s g k h
    unfold gcode at h
    unfold pcode
    split at h
    · exact ⟨_, _, _, (iter_head (pround P X C lv n0 fuel b) _ _ _).trans h.1, h.2⟩
    · have key : ∀ (m : Nat) (s : PS) (g : Gd), Holds Q (giter (fun s g k => gcode P X C lv n0 fuel fu b (hd n0 lv b s) g fun e s g => k e (xs n0 lv b e s) g) m s g k) → ∃ e s' g', iter (fun s => (pcode P X C lv n0 fuel b (hd n0 lv b s)).map fun x => (x.1, xs n0 lv b x.1 x.2)) m s = some (e, s') ∧ Holds Q (k e s' g') := by
        intro m
        induction m with
        | zero => intro s g h; exact h.elim
        | succ m ihm =>
          intro s g h
          unfold giter at h
          unfold iter
          obtain ⟨e, s', g', h1, h2⟩ := ih _ _ _ h
          rw [h1]
          cases e with
          | normal => exact ihm _ _ h2
          | ret => exact ⟨_, _, _, rfl, h2⟩
          | exit i => exact ⟨_, _, _, rfl, h2⟩
      obtain ⟨e, s', g', h1, h2⟩ := key _ _ _ h
      exact ⟨e, s', g', iter_mono _ _ _ _ _ hf h1, h2⟩
    · exact h.elim
    · exact h.elim
  | exit id => intro s g k h; exact ⟨_, _, _, rfl, h⟩
  | ret => intro s g k h; exact ⟨_, _, _, rfl, h⟩
  | _ => intro s g k h; exact h.elim
/-- one round of a loop: the next head, or how it ends -/
def ground (P : Program) (X : Cfg) (C : Orc) (lv : Nat → Option (List Nat)) (n0 fuel fu : Nat) (b : Code) (t : PS) (g : Gd) : TT (PE × PS) :=
  gcode P X C lv n0 fuel fu b t g fun e s _ => match e with | .normal => .done (.normal, hd n0 lv b s) | .ret => .done (.ret, xs n0 lv b .ret s) | .exit i => .done (.exit i, xs n0 lv b (.exit i) s)
def goOn (F : Nat → PS → Option (PE × PS)) (n : Nat) (r : PE × PS) : Option (PE × PS) := match r with | (.normal, s) => F n s | r => some r
theorem ground_sound {P : Program} {X : Cfg} {C : Orc} {lv : Nat → Option (List Nat)} {n0 fuel fu n : Nat} {b : Code} {t : PS} {g : Gd} {tr : TT (PE × PS)} {r : Option (PE × PS)} (hf : fu ≤ fuel)
    (ht : ground P X C lv n0 fuel fu b t g = tr) (h : Holds (fun x => goOn (iterH (pround P X C lv n0 fuel b) (hd n0 lv b)) n x = r) tr) : iterH (pround P X C lv n0 fuel b) (hd n0 lv b) (n + 1) t = r := by
  subst ht
  obtain ⟨e, s', g', h1, h2⟩ := gcode_sound hf b _ _ _ h
  unfold iterH pround
  rw [h1]
  cases e with
  | normal => exact h2
  | ret => exact h2
  | exit i => exact h2
/-- the body of the loop whose first region has number r -/
def lpOf (r : Nat) : Code → Option Code
  | .loop b => if fr b = r then some b else lpOf r b
  | .seq a b => match lpOf r a with | some x => some x | none => lpOf r b
  | .cond _ a b => match lpOf r a with | some x => some x | none => lpOf r b
  | .block _ b => lpOf r b
  | .scope b => lpOf r b
  | _ => none
def lpB (fn : Func) (r : Nat) : Code := match fn.body with | some c => (lpOf r c).getD .skip | none => .skip
/-- that loop, n rounds at most, from its head -/
def lpH (P : Program) (X : Cfg) (C : Orc) (f n0 fuel : Nat) (fn : Func) (r : Nat) (n : Nat) (t : PS) : Option (PE × PS) := iterH (pround P X C (X.lv f) n0 fuel (lpB fn r)) (hd n0 (X.lv f) (lpB fn r)) n t
/-- one round of it -/
def lpG (P : Program) (X : Cfg) (C : Orc) (f n0 fuel fu : Nat) (fn : Func) (r : Nat) (t : PS) (g : Gd) : TT (PE × PS) := ground P X C (X.lv f) n0 fuel fu (lpB fn r) t g
theorem lpG_sound {P : Program} {X : Cfg} {C : Orc} {f n0 fuel fu n r : Nat} {fn : Func} {t : PS} {g : Gd} {tr : TT (PE × PS)} {x : Option (PE × PS)} (hf : fu ≤ fuel)
    (ht : lpG P X C f n0 fuel fu fn r t g = tr) (h : Holds (fun y => goOn (lpH P X C f n0 fuel fn r) n y = x) tr) : lpH P X C f n0 fuel fn r (n + 1) t = x := ground_sound hf ht h
end Go.Proofs.YtkfmhmkeikhdbaaDoor.Pv
