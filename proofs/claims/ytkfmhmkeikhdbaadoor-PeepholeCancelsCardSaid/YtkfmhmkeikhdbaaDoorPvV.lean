/- Functions read with values that are not known; what is called is given by a table. -/
import Derived.Test.YtkfmhmkeikhdbaaDoorPvU
namespace Go.Proofs.YtkfmhmkeikhdbaaDoor.Pv
open Go.RowKit
set_option linter.unusedSimpArgs false
set_option linter.unusedVariables false
set_option maxHeartbeats 1000000

structure Le (C' C : Orc) : Prop where
  sh : ∀ g, C'.sh g = C.sh g
  iso : ∀ g as r, C'.iso g as = some r → C.iso g as = some r
  shr : ∀ g as hp r, C'.shr g as hp = some r → C.shr g as hp = some r
theorem pcallv_mono {C' C : Orc} (h : Le C' C) {f : PV} {as : List PV} {hp : List Box} {r : PV × List Box} (e : pcallv C' f as hp = some r) : pcallv C f as hp = some r := by
  unfold pcallv at e ⊢
  split at e
  · skip
    rw [← h.sh]
    split at e
    · rename_i k; rw [if_pos k]; exact h.shr _ _ _ _ e
    · rename_i k; rw [if_neg k]
      split at e
      · rename_i k2; rw [if_pos k2]
        cases k3 : C'.iso _ _ with
        | none => rw [k3] at e; cases e
        | some x => rw [k3] at e; rw [h.iso _ _ _ k3]; exact e
      · rename_i k2; rw [if_neg k2]
        split at e
        · rename_i as' hp' k3
          (try simp only)
          split at e
          · rename_i x k4
            rw [h.iso _ _ _ k4]
            exact e
          · cases e
        · cases e
  · cases e
theorem pcallD_mono {C' C : Orc} (h : Le C' C) {f : PV} {as : List PV} {hp : List Box} {r : PV} (e : pcallD C' f as hp = some r) : pcallD C f as hp = some r := by
  unfold pcallD at e ⊢
  split at e
  · skip
    rw [← h.sh]
    split at e
    · cases e
    · rename_i k; rw [if_neg k]
      split at e
      · rename_i k2; rw [if_pos k2]; exact h.iso _ _ _ e
      · rename_i k2; rw [if_neg k2]
        split at e
        · rename_i as' hp' k3
          (try simp only)
          split at e
          · rename_i x k4
            rw [h.iso _ _ _ k4]
            exact e
          · cases e
        · cases e
  · cases e
theorem pop_mono {P : Program} {C' C : Orc} (h : Le C' C) {ev : Operand → PV} {hp : List Box} {op : Op} {r : PV × List Box} (e : pop P C' ev hp op = some r) : pop P C ev hp op = some r := by
  unfold pop at e ⊢
  split at e <;> first | exact e | exact pcallv_mono h e
theorem popD_mono {P : Program} {C' C : Orc} (h : Le C' C) {ev : Operand → PV} {hp : List Box} {op : Op} {r : PV × List Box} (e : popD P C' ev hp op = some r) : popD P C ev hp op = some r := by
  unfold popD at e ⊢
  split at e
  · skip
    cases k : pcallD C' _ _ hp with
    | none => rw [k] at e; cases e
    | some x => rw [k] at e; rw [pcallD_mono h k]; exact e
  · exact pop_mono h e
theorem pseqP_mono {G : Nat → List PV} {p' p : PP} (h : ∀ ev hp op r, p' ev hp op = some r → p ev hp op = some r) (ops : Array Oper) : ∀ (l : List Oper) (s s' : PS), pseqP G p' ops l s = some s' → pseqP G p ops l s = some s'
  | [], s, s', e => e
  | o :: rest, s, s', e => by
    unfold pseqP at e ⊢
    cases h1 : pwant ops s.tmps o with
    | none => rw [h1] at e; cases e
    | some b =>
      rw [h1] at e
      cases b
      · exact pseqP_mono h ops rest _ _ e
      · simp only at e ⊢
        split at e
        · rename_i v hp' k
          rw [h _ _ _ _ k]
          exact pseqP_mono h ops rest _ _ e
        · cases e
theorem iter_le {b' b : PS → Option (PE × PS)} (h : ∀ s r, b' s = some r → b s = some r) : ∀ (n : Nat) (s : PS) r, iter b' n s = some r → iter b n s = some r
  | 0, _, _, e => e
  | n + 1, s, r, e => by
    unfold iter at e ⊢
    split at e
    · rename_i s' k
      rw [h _ _ k]
      exact iter_le h n s' r e
    · rename_i hx
      have := h _ _ e
      rw [this]
      cases r with | mk e1 s1 => cases e1 <;> first | rfl | exact (hx _ e).elim
theorem pcode_mono {P : Program} {X : Cfg} {C' C : Orc} (h : Le C' C) {lv : Nat → Option (List Nat)} {n0 fuel : Nat} (c : Code) : ∀ (s : PS) r, pcode P X C' lv n0 fuel c s = some r → pcode P X C lv n0 fuel c s = some r := by
  induction c with
  | skip => intro s r e; exact e
  | region id ops draw =>
    intro s r e
    unfold pcode at e ⊢
    split at e
    · rename_i s' k
      cases e
      have : (if draw = true then pseqD P X.G C ops ops.toList s else pseq P X.G C ops ops.toList s) = some s' := by
        cases draw
        · simp only [Bool.false_eq_true, if_false] at k ⊢
          rw [← pseqP_pop] at k ⊢
          exact pseqP_mono (fun _ _ _ _ => pop_mono h) _ _ _ _ k
        · simp only [if_true] at k ⊢
          rw [← pseqP_popD] at k ⊢
          exact pseqP_mono (fun _ _ _ _ => popD_mono h) _ _ _ _ k
      rw [this]
    · cases e
  | seq x y ihx ihy =>
    intro s r e
    unfold pcode at e ⊢
    split at e
    · rename_i s' k
      rw [ihx _ _ k]
      exact ihy _ _ e
    · rename_i hx
      have := ihx _ _ e
      rw [this]
      cases r with | mk e1 s1 => cases e1 <;> first | rfl | exact (hx _ e).elim
  | cond c x y ihx ihy =>
    intro s r e
    unfold pcode at e ⊢
    split at e
    · rename_i t k
      skip
      split at e
      · rename_i k2; rw [if_pos k2]; exact ihx _ _ e
      · rename_i k2; rw [if_neg k2]; exact ihy _ _ e
    · cases e
  | block id b ih =>
    intro s r e
    unfold pcode at e ⊢
    split at e
    · rename_i i s' k
      rw [ih _ _ k]
      exact e
    · rename_i hx
      have := ih _ _ e
      rw [this]
      cases r with | mk e1 s1 => cases e1 <;> first | rfl | exact (hx _ _ e).elim
  | loop b ih =>
    intro s r e
    unfold pcode at e ⊢
    exact iter_le (fun s r => ih _ r) _ _ _ e
  | exit id => intro s r e; exact e
  | ret => intro s r e; exact e
  | _ => intro s r e; cases e
/-- a function, read with a table -/
def gfun {α : Type} (P : Program) (X : Cfg) (C : Orc) (f n fu : Nat) (fn : Func) (as : List PV) (hp : List Box) (g : Gd) (k : PV → List Box → TT α) : TT α :=
  match fn.body with
  | some c =>
    match decide (fn.ntmps < as.length) with
    | true => .fail
    | false => gcode P X C (X.lv f) hp.length n fu c ⟨start fn.ntmps as, hp⟩ g fun e s _ =>
      match e with
      | .exit _ => .fail
      | .normal => match presults P fn s with | some r => k r s.hp | none => .fail
      | .ret => match presults P fn s with | some r => k r s.hp | none => .fail
  | none => .fail
theorem gfun_sound {α : Type} {Q : α → Prop} {P : Program} {X : Cfg} {C : Orc} {f n fu : Nat} {fn : Func} {as : List PV} {hp : List Box} {g : Gd} {k : PV → List Box → TT α} (hf : fu ≤ n) (hC : Le C (orc P X n)) (hfn : fnd P X f = some fn)
    (h : Holds Q (gfun P X C f n fu fn as hp g k)) : ∃ r hp', shr P X (n + 1) f as hp = some (r, hp') ∧ Holds Q (k r hp') := by
  unfold gfun at h
  rw [shr_succ, hfn]
  simp only
  unfold pbody
  split at h
  · rename_i c hc
    simp only [hc]
    split at h
    · exact h.elim
    · rename_i hd
      rw [if_neg (by simpa using hd)]
      obtain ⟨e, s', g', h1, h2⟩ := gcode_sound hf c _ _ _ h
      rw [pcode_mono hC c _ _ h1]
      cases e with
      | exit i => exact h2.elim
      | normal =>
        simp only at h2 ⊢
        split at h2
        · rename_i r k2; rw [k2]; exact ⟨_, _, rfl, h2⟩
        · exact h2.elim
      | ret =>
        simp only at h2 ⊢
        split at h2
        · rename_i r k2; rw [k2]; exact ⟨_, _, rfl, h2⟩
        · exact h2.elim
  · exact h.elim
/-- a call with plain values, read with a table -/
def gis (P : Program) (X : Cfg) (C : Orc) (f n fu : Nat) (fn : Func) (as : List PV) (g : Gd) : TT PV :=
  gfun P X C f n fu fn as [] g fun r hp' => match fz deep hp' r with | some (r', _) => .done r' | none => .fail
theorem gis_sound {P : Program} {X : Cfg} {C : Orc} {f n fu : Nat} {fn : Func} {as : List PV} {g : Gd} {r : PV} {t : TT PV} (hf : fu ≤ n) (hC : Le C (orc P X n)) (hfn : fnd P X f = some fn) (hx : X.ext f = none)
    (ht : gis P X C f n fu fn as g = t) (h : Holds (· = r) t) : iso P X (n + 1) f as = some r := by
  subst ht
  obtain ⟨r', hp', h1, h2⟩ := gfun_sound hf hC hfn h
  unfold iso
  rw [hx, h1]
  simp only
  split at h2
  · rename_i r2 hp2 e; rw [e]; exact congrArg some h2
  · exact h2.elim
/-- a call over the caller's boxes -/
def gsh (P : Program) (X : Cfg) (C : Orc) (f n fu : Nat) (fn : Func) (as : List PV) (hp : List Box) (g : Gd) : TT (PV × List Box) :=
  gfun P X C f n fu fn as hp g fun r hp' => .done (r, hp')
theorem gsh_sound {P : Program} {X : Cfg} {C : Orc} {f n fu : Nat} {fn : Func} {as : List PV} {hp : List Box} {g : Gd} {r : PV × List Box} {t : TT (PV × List Box)} (hf : fu ≤ n) (hC : Le C (orc P X n)) (hfn : fnd P X f = some fn)
    (ht : gsh P X C f n fu fn as hp g = t) (h : Holds (· = r) t) : shr P X (n + 1) f as hp = some r := by
  subst ht
  obtain ⟨r', hp', h1, h2⟩ := gfun_sound hf hC hfn h
  rw [h1]; exact congrArg some h2
/-- a table of calls -/
abbrev Tab := List (Nat × (List PV → Option PV))
abbrev TabS := List (Nat × (List PV → List Box → Option (PV × List Box)))
def tab (sh : Nat → Bool) (t : Tab) (u : TabS) : Orc := ⟨fun g as => match t.lookup g with | some h => h as | none => none, fun g as hp => match u.lookup g with | some h => h as hp | none => none, sh⟩
def IsoS (P : Program) (X : Cfg) (n : Nat) (p : Nat × (List PV → Option PV)) : Prop := ∀ as r, p.2 as = some r → iso P X n p.1 as = some r
def ShrS (P : Program) (X : Cfg) (n : Nat) (p : Nat × (List PV → List Box → Option (PV × List Box))) : Prop := ∀ as hp r, p.2 as hp = some r → shr P X n p.1 as hp = some r
theorem lookup_in {β : Type} : ∀ {l : List (Nat × β)} {k : Nat} {v : β}, l.lookup k = some v → (k, v) ∈ l
  | [], k, v, h => by simp [List.lookup] at h
  | (a, b) :: l, k, v, h => by
    unfold List.lookup at h
    split at h
    · rename_i e
      have : k = a := by simpa using e
      cases h; subst this; exact List.mem_cons_self ..
    · exact List.mem_cons_of_mem _ (lookup_in h)
theorem tab_le {P : Program} {X : Cfg} {n : Nat} {t : Tab} {u : TabS} (ht : ∀ p ∈ t, IsoS P X n p) (hu : ∀ p ∈ u, ShrS P X n p) : Le (tab X.sh t u) (orc P X n) := by
  refine ⟨fun _ => rfl, fun g as r h => ?_, fun g as hp r h => ?_⟩
  · simp only [tab] at h
    split at h
    · rename_i k e; exact ht _ (lookup_in e) as r h
    · cases h
  · simp only [tab] at h
    split at h
    · rename_i k e; exact hu _ (lookup_in e) as hp r h
    · cases h
end Go.Proofs.YtkfmhmkeikhdbaaDoor.Pv
