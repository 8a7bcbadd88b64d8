/- Code, functions: **what the plain reader says, the machine does**. -/
import Derived.Test.YtfhojpnofmlkdaaDoorPvH
namespace Go.Proofs.YtfhojpnofmlkdaaDoor.Pv
open Go.RowKit
set_option linter.unusedSimpArgs false
set_option linter.unusedVariables false
set_option maxHeartbeats 1000000

inductive PE where
  | normal
  | ret
  | exit (id : Nat)
  deriving DecidableEq
def PE.ex : PE → Exit
  | .normal => .normal
  | .ret => .ret
  | .exit id => .exit id
def iter (b : PS → Option (PE × PS)) : Nat → PS → Option (PE × PS)
  | 0, _ => none
  | n + 1, s =>
    match b s with
    | some (.normal, s') => iter b n s'
    | r => r
/-- the number of the first region -/
def fr : Code → Nat
  | .region id _ _ => id
  | .seq a _ => fr a
  | .block _ b => fr b
  | .loop b => fr b
  | .scope b => fr b
  | _ => 0
/-- how a program is read: the variables, the functions with a contract of their own, the functions that write what they are given, the functions that are read, the slots that live at the head of a loop -/
structure Cfg where
  G : Nat → List PV
  ext : Nat → Option (List PV → Option PV)
  sh : Nat → Bool
  fns : Nat → Bool
  lv : Nat → Nat → Option (List Nat)
def Cfg.hs (X : Cfg) : Nat → Bool := fun g => X.sh (g + far)
def hd (n : Nat) (lv : Nat → Option (List Nat)) (b : Code) (s : PS) : PS := match lv (fr b) with | some L => gc n L s | none => s
/-- the number of an exit -/
def ek : PE → Nat
  | .normal => 0
  | .ret => 1
  | .exit id => id + 2
/-- what lives where a loop is left -/
def xs (n : Nat) (lv : Nat → Option (List Nat)) (b : Code) (e : PE) (s : PS) : PS :=
  match e with
  | .normal => s
  | e => match lv (fr b + 100000 * ek e) with | some L => gc n L s | none => s
def pcode (P : Program) (X : Cfg) (C : Orc) (lv : Nat → Option (List Nat)) (n0 fuel : Nat) : Code → PS → Option (PE × PS)
  | .skip, s => some (.normal, s)
  | .region _ ops draw, s =>
    match (if draw = true then pdraw P X.G C ops s else pseq P X.G C ops ops.toList s) with
    | some s' => some (.normal, s')
    | none => none
  | .seq x y, s =>
    match pcode P X C lv n0 fuel x s with
    | some (.normal, s') => pcode P X C lv n0 fuel y s'
    | r => r
  | .cond c x y, s =>
    match evP X.G s.tmps c with
    | .bool t => if t = true then pcode P X C lv n0 fuel x s else pcode P X C lv n0 fuel y s
    | _ => none
  | .block id b, s =>
    match pcode P X C lv n0 fuel b s with
    | some (.exit i, s') => if i = id then some (.normal, s') else some (.exit i, s')
    | r => r
  | .loop b, s => iter (fun s => (pcode P X C lv n0 fuel b (hd n0 lv b s)).map fun x => (x.1, xs n0 lv b x.1 x.2)) fuel s
  | .exit id, s => some (.exit id, s)
  | .ret, s => some (.ret, s)
  | _, _ => none
def pres (P : Program) (s : PS) : ResultVar → Option PV
  | .tmp t => some (getT s.tmps t)
  | .cell a T => pload P s.hp T (getT s.tmps a)
def presL (P : Program) (s : PS) : List ResultVar → Option (List PV)
  | [] => some []
  | r :: rs => match pres P s r, presL P s rs with | some v, some l => some (v :: l) | _, _ => none
def presults (P : Program) (fn : Func) (s : PS) : Option PV :=
  match presL P s fn.results.toList with
  | some [v] => some v
  | some l => some (.tup l)
  | none => none
def nums : Nat → List PV → List (Nat × PV)
  | _, [] => []
  | i, a :: as => (i, a) :: nums (i + 1) as
def start (n : Nat) (as : List PV) : TS := ⟨n, nums 0 as⟩
def pbody (P : Program) (X : Cfg) (C : Orc) (f fuel : Nat) (fn : Func) (as : List PV) (hp : List Box) : Option (PV × List Box) :=
  match fn.body with
  | some c =>
    if fn.ntmps < as.length then none else
    match pcode P X C (X.lv f) hp.length fuel c ⟨start fn.ntmps as, hp⟩ with
    | some (.normal, s) => match presults P fn s with | some r => some (r, s.hp) | none => none
    | some (.ret, s) => match presults P fn s with | some r => some (r, s.hp) | none => none
    | _ => none
  | none => none
def lnth : List Func → Nat → Option Func
  | [], _ => none
  | f :: fs, n => match n with | 0 => some f | n + 1 => lnth fs n
theorem lnth_eq : ∀ (l : List Func) (n : Nat), lnth l n = l[n]?
  | [], _ => rfl
  | f :: fs, 0 => rfl
  | f :: fs, n + 1 => by simpa [lnth] using lnth_eq fs n
def fnd (P : Program) (X : Cfg) (f : Nat) : Option Func := if X.fns f = true then lnth P.funcs.toList f else none
theorem fnd_some {P : Program} {X : Cfg} {f : Nat} {fn : Func} (h : fnd P X f = some fn) : X.fns f = true ∧ P.funcs[f]? = some fn := by
  unfold fnd at h
  split at h
  · rename_i hx
    rw [lnth_eq] at h
    exact ⟨hx, by simpa using h⟩
  · cases h
def shr (P : Program) (X : Cfg) : Nat → Nat → List PV → List Box → Option (PV × List Box)
  | 0, _, _, _ => none
  | n + 1, f, as, hp =>
    match fnd P X f with
    | some fn => pbody P X ⟨fun g as => match X.ext g with
        | some h => h as
        | none => match shr P X n g as [] with | some (r, hp') => (fz deep hp' r).map (·.1) | none => none, shr P X n, X.sh, []⟩ f n fn as hp
    | none => none
/-- a call with plain values -/
def iso (P : Program) (X : Cfg) (n g : Nat) (as : List PV) : Option PV :=
  match X.ext g with
  | some h => h as
  | none => match shr P X n g as [] with | some (r, hp') => (fz deep hp' r).map (·.1) | none => none
def orc (P : Program) (X : Cfg) (n : Nat) : Orc := ⟨iso P X n, shr P X n, X.sh, []⟩
theorem shr_succ (P : Program) (X : Cfg) (n f : Nat) (as : List PV) (hp : List Box) : shr P X (n + 1) f as hp = match fnd P X f with | some fn => pbody P X (orc P X n) f n fn as hp | none => none := rfl

/-- every region whose order is drawn is one where it does not matter -/
def drAll (hs : Nat → Bool) : Code → Bool
  | .region _ ops draw => !draw || drOk hs ops
  | .seq x y => drAll hs x && drAll hs y
  | .cond _ x y => drAll hs x && drAll hs y
  | .block _ b => drAll hs b
  | .loop b => drAll hs b
  | _ => true

theorem iter_sound {P : Program} {X : Cfg} {n0 : Nat} {B : Nat → Prop} {c : Code} {b : PS → Option (PE × PS)} {Q : Exit → Act → World → Prop}
    (hb : ∀ (Q : Exit → Act → World → Prop) (H : GH) (ρ : RM) (w : World) (a : Act) (s s' : PS) (e : PE), StR X.G B H ρ w a s → b s = some (e, s') → (∀ a' w' H' ρ', Stp n0 B H ρ w H' ρ' w' → StR X.G B H' ρ' w' a' s' → Q e.ex a' w') → c.wp P Q a w) :
    ∀ (k : Nat) (H : GH) (ρ : RM) (w : World) (a : Act) (s s' : PS) (e : PE), StR X.G B H ρ w a s → iter b k s = some (e, s') → (∀ a' w' H' ρ', Stp n0 B H ρ w H' ρ' w' → StR X.G B H' ρ' w' a' s' → Q e.ex a' w') → Code.rounds P c Q k a w := by
  intro k
  induction k with
  | zero => intro H ρ w a s s' e h hi hK; simp only [iter] at hi; cases hi
  | succ k ih =>
    intro H ρ w a s s' e h hi hK
    unfold iter at hi
    rw [rounds_succ]
    split at hi
    · rename_i s1 h1
      refine hb _ H ρ w a s s1 .normal h h1 fun a' w' H' ρ' k1 k2 => ?_
      exact ih H' ρ' w' a' s1 s' e k2 hi fun a'' w'' H'' ρ'' m1 m2 => hK a'' w'' H'' ρ'' (k1.trans m1) m2
    · rename_i n1
      refine hb _ H ρ w a s s' e h hi fun a' w' H' ρ' k1 k2 => ?_
      have := hK a' w' H' ρ' k1 k2
      cases e with
      | normal => exact absurd hi (n1 _)
      | ret => exact this
      | exit id => exact this
theorem xs_cases (n : Nat) (lv : Nat → Option (List Nat)) (b : Code) (e : PE) (s : PS) : xs n lv b e s = s ∨ ∃ L, xs n lv b e s = gc n L s := by
  unfold xs
  split
  · exact .inl rfl
  · split
    · exact .inr ⟨_, rfl⟩
    · exact .inl rfl
theorem pcode_sound {P : Program} {X : Cfg} {C : Orc} (hm : P.follows .mixedOrders = true) (hC : OrcOk P X.G C) {lv : Nat → Option (List Nat)} {n0 fuel : Nat} {B : Nat → Prop} : ∀ (c : Code), drAll C.hs c = true → ∀ (Q : Exit → Act → World → Prop) (H : GH) (ρ : RM) (w : World) (a : Act) (s s' : PS) (e : PE), StR X.G B H ρ w a s → pcode P X C lv n0 fuel c s = some (e, s') →
    (∀ a' w' H' ρ', Stp n0 B H ρ w H' ρ' w' → StR X.G B H' ρ' w' a' s' → Q e.ex a' w') → c.wp P Q a w := by
  intro c
  induction c with
  | skip =>
    intro hdr Q H ρ w a s s' e h hp hK
    simp only [pcode] at hp; cases hp
    exact wp_skip (hK a w H ρ (.refl _ _ _ _ _) h)
  | region id ops draw =>
    intro hdr Q H ρ w a s s' e h hp hK
    simp only [pcode] at hp
    split at hp
    · rename_i s1 h1
      cases hp
      cases draw with
      | false => exact wp_region_list (pseq_sound hC _ H ρ w a s s' h (by simpa using h1) hK)
      | true =>
        obtain ⟨U, u1, u2, u3⟩ := pdraw_ok (show pdraw P X.G C _ s = some _ by simpa using h1)
        exact draw_sound (C := C.wu U) hm (hC.wu U) (show drOk C.hs _ = true by simpa [drAll] using hdr) h u2 u1 u3 hK
    · cases hp
  | seq x y ihx ihy =>
    intro hdr Q H ρ w a s s' e h hp hK
    simp only [pcode] at hp
    refine wp_seq ?_
    split at hp
    · rename_i s1 h1
      refine ihx (by simp [drAll] at hdr; exact hdr.1) _ H ρ w a s s1 .normal h h1 fun a' w' H' ρ' k1 k2 => ?_
      exact ihy (by simp [drAll] at hdr; exact hdr.2) Q H' ρ' w' a' s1 s' e k2 hp fun a'' w'' H'' ρ'' m1 m2 => hK a'' w'' H'' ρ'' (k1.trans m1) m2
    · rename_i n1
      refine ihx (by simp [drAll] at hdr; exact hdr.1) _ H ρ w a s s' e h hp fun a' w' H' ρ' k1 k2 => ?_
      have := hK a' w' H' ρ' k1 k2
      cases e with
      | normal => exact absurd hp (n1 _)
      | ret => exact this
      | exit id => exact this
  | cond c x y ihx ihy =>
    intro hdr Q H ρ w a s s' e h hp hK
    simp only [pcode] at hp
    split at hp
    · rename_i t ht
      have hx := ev_rel h.gr h.tm c
      rw [ht] at hx
      generalize hu : a.eval c = u at hx
      cases hx
      refine wp_cond hu ?_
      cases t
      · exact ihy (by simp [drAll] at hdr; exact hdr.2) Q H ρ w a s s' e h (by simpa using hp) hK
      · exact ihx (by simp [drAll] at hdr; exact hdr.1) Q H ρ w a s s' e h (by simpa using hp) hK
    · cases hp
  | block id b ih =>
    intro hdr Q H ρ w a s s' e h hp hK
    simp only [pcode] at hp
    refine wp_block ?_
    split at hp
    · rename_i i s1 h1
      refine ih hdr _ H ρ w a s s1 (.exit i) h h1 fun a' w' H' ρ' k1 k2 => ?_
      show if i = id then Q .normal a' w' else Q (.exit i) a' w'
      split at hp
      · rename_i e1; cases hp; rw [if_pos e1]; exact hK a' w' H' ρ' k1 k2
      · rename_i e1; cases hp; rw [if_neg e1]; exact hK a' w' H' ρ' k1 k2
    · rename_i n1
      refine ih hdr _ H ρ w a s s' e h hp fun a' w' H' ρ' k1 k2 => ?_
      have := hK a' w' H' ρ' k1 k2
      cases e with
      | normal => exact this
      | ret => exact this
      | exit i => exact absurd hp (n1 _ _)
  | loop b ih =>
    intro hdr Q H ρ w a s s' e h hp hK
    simp only [pcode] at hp
    refine wp_loop_rounds fuel ?_
    refine iter_sound (P := P) (X := X) (n0 := n0) (B := B) (b := fun s => (pcode P X C lv n0 fuel b (hd n0 lv b s)).map fun x => (x.1, xs n0 lv b x.1 x.2)) (fun Q H ρ w a s s' e h hb0 hK => ?_) fuel H ρ w a s s' e h hp hK
    obtain ⟨⟨e1, s1⟩, hb, hx⟩ := Option.map_eq_some_iff.1 hb0
    clear hb0
    injection hx with hx1 hx2
    simp only at hx1 hx2
    subst hx1
    replace hK : ∀ a' w' H' ρ', Stp n0 B H ρ w H' ρ' w' → StR X.G B H' ρ' w' a' s1 → Q e1.ex a' w' := fun a' w' H' ρ' k1 k2 => by
      rcases xs_cases n0 lv b e1 s1 with hc | ⟨L, hc⟩
      · rw [hc] at hx2; subst hx2; exact hK a' w' H' ρ' k1 k2
      · rw [hc] at hx2; subst hx2
        obtain ⟨ρ'', h1, h2⟩ := gc_rel (n := n0) L k2
        exact hK a' w' H' ρ'' (k1.trans (⟨.refl _, h2, fun _ _ _ _ h => h, .refl _ _⟩ : Stp n0 B H' ρ' w' H' ρ'' w')) h1
    clear hx2 s'
    simp only [hd] at hb
    split at hb
    · rename_i L _
      obtain ⟨ρ', h1, h2⟩ := gc_rel (n := n0) L h
      exact ih hdr Q H ρ' w a _ s1 e1 h1 hb fun a' w' H' ρ'' k1 k2 => hK a' w' H' ρ'' ((⟨.refl _, h2, fun _ _ _ _ h => h, .refl _ _⟩ : Stp n0 B H ρ w H ρ' w).trans k1) k2
    · exact ih hdr Q H ρ w a s s1 e1 h hb hK
  | exit id =>
    intro hdr Q H ρ w a s s' e h hp hK
    simp only [pcode] at hp; cases hp
    exact wp_exit (hK a w H ρ (.refl _ _ _ _ _) h)
  | ret =>
    intro hdr Q H ρ w a s s' e h hp hK
    simp only [pcode] at hp; cases hp
    exact wp_ret (hK a w H ρ (.refl _ _ _ _ _) h)
  | _ => intro hdr Q H ρ w a s s' e h hp hK; simp only [pcode] at hp; cases hp

def resf (tmps : Array Value) : ResultVar → Sem Value
  | .tmp t => pure (tmps.getD t undef)
  | .cell a t => do loadVar t (← asAddr (tmps.getD a undef))
theorem pres_sound {P : Program} {G : Nat → List PV} {B : Nat → Prop} {H : GH} {ρ : RM} {w : World} {a : Act} {s : PS} {r : ResultVar} {v : PV} (h : StR G B H ρ w a s) (hp : pres P s r = some v) : ∃ z, (resf a.tmps r).run P w = .ok z w ∧ Rel H ρ z v := by
  cases r with
  | tmp t =>
    simp only [pres] at hp; cases hp
    exact ⟨_, by simp [resf], h.tm t⟩
  | cell c T =>
    simp only [pres] at hp
    have ht := h.tm c
    obtain ⟨z, h1, h2⟩ := pload_sound h.wr hp ht
    refine ⟨z, ?_, h2⟩
    show (do loadVar T (← asAddr (a.tmps.getD c undef)) : Sem Value).run P w = _
    generalize a.tmps.getD c undef = u at ht h1 ⊢
    unfold pload at hp
    split at hp
    · rename_i e; rw [e] at ht; cases ht; simp [Instr.loadAt, Instr.sureAddr] at h1; simp [Sem.run_bind, asAddr, h1, *]
    · rename_i e; rw [e] at ht; cases ht; simp [Instr.loadAt, Instr.sureAddr] at h1; simp [Sem.run_bind, asAddr, h1, *]
    · cases hp
theorem presL_sound {P : Program} {G : Nat → List PV} {B : Nat → Prop} {H : GH} {ρ : RM} {w : World} {a : Act} {s : PS} (h : StR G B H ρ w a s) : ∀ (rs : List ResultVar) (l : List PV), presL P s rs = some l → ∃ vs : List Value, (rs.mapM (resf a.tmps)).run P w = .ok vs w ∧ vs.length = l.length ∧ ∀ (i : Nat) v c, vs[i]? = some v → l[i]? = some c → Rel H ρ v c := by
  intro rs
  induction rs with
  | nil => intro l hl; simp only [presL] at hl; cases hl; exact ⟨[], by simp, rfl, fun i v c hv => by simp at hv⟩
  | cons r rs ih =>
    intro l hl
    simp only [presL] at hl
    split at hl
    · rename_i v l' h1 h2
      cases hl
      obtain ⟨z, k1, k2⟩ := pres_sound h h1
      obtain ⟨vs, k3, k4, k5⟩ := ih l' h2
      refine ⟨z :: vs, by rw [List.mapM_cons]; simp [Sem.run_bind, k1, k3], by simp [k4], fun i u c hu hc => ?_⟩
      cases i with
      | zero => simp at hu hc; subst hu; subst hc; exact k2
      | succ i => exact k5 i u c hu hc
    · cases hl
theorem presults_sound {P : Program} {G : Nat → List PV} {B : Nat → Prop} {H : GH} {ρ : RM} {w : World} {a : Act} {s : PS} {fn : Func} {r : PV} (h : StR G B H ρ w a s) (hp : presults P fn s = some r) : ∃ z, (results fn a.tmps).run P w = .ok z w ∧ Rel H ρ z r := by
  unfold presults at hp
  have key : ∀ l, presL P s fn.results.toList = some l → ∃ vs : List Value, (fn.results.mapM (resf a.tmps)).run P w = .ok vs.toArray w ∧ vs.length = l.length ∧ ∀ (i : Nat) v c, vs[i]? = some v → l[i]? = some c → Rel H ρ v c := fun l hl => by
    obtain ⟨vs, k1, k2, k3⟩ := presL_sound h _ _ hl
    refine ⟨vs, ?_, k2, k3⟩
    rw [← Array.toArray_toList (xs := fn.results), List.mapM_toArray]
    simp [Sem.run_bind, k1]
  have hres : results fn a.tmps = (fn.results.mapM (resf a.tmps)) >>= fun vs => pure (if h : vs.size = 1 then vs[0] else .tuple vs) := rfl
  split at hp
  · rename_i v hl
    cases hp
    obtain ⟨vs, k1, k2, k3⟩ := key _ hl
    match vs, k2 with
    | [z], _ => exact ⟨z, by rw [hres]; simp [Sem.run_bind, k1], k3 0 z r rfl rfl⟩
  · rename_i l n1 hl
    cases hp
    obtain ⟨vs, k1, k2, k3⟩ := key _ hl
    have hne : vs.length ≠ 1 := fun e => by
      rw [e] at k2
      match l, k2 with
      | [x], _ => exact n1 x rfl
    exact ⟨.tuple vs.toArray, by rw [hres]; simp [Sem.run_bind, k1, hne], .tup _ _ (by simpa using k2) (fun i v c hv hc => k3 i v c (by simpa using hv) hc)⟩
  · cases hp
theorem lk_nums {H : GH} {ρ : RM} {f : Nat → Value} : ∀ (as : List PV) (i : Nat), (∀ (j : Nat) c, as[j]? = some c → Rel H ρ (f (i + j)) c) → ∀ t, Rel H ρ (f t) (lk (nums i as) t) := by
  intro as
  induction as with
  | nil => intro i _ t; exact .any _
  | cons a as ih =>
    intro i h t
    simp only [nums, lk]
    split
    · rename_i e; subst e; exact h 0 a rfl
    · exact ih (i + 1) (fun j c hc => by have := h (j + 1) c (by simpa using hc); rwa [show i + 1 + j = i + (j + 1) by omega]) t
theorem start_rel {H : GH} {ρ : RM} {vs : Array Value} {as : List PV} {n : Nat} (h : Args H ρ vs as) (hn : as.length ≤ n) : (vs ++ Array.replicate (n - vs.size) undef).size = (start n as).n ∧ ∀ t, Rel H ρ ((vs ++ Array.replicate (n - vs.size) undef).getD t undef) (getT (start n as) t) := by
  refine ⟨by simp [start, h.len]; omega, fun t => ?_⟩
  refine lk_nums (f := fun t => (vs ++ Array.replicate (n - vs.size) undef).getD t undef) as 0 (fun j c hc => ?_) t
  have hj : j < vs.size := by rw [h.len]; exact (List.getElem?_eq_some_iff.1 hc).1
  simp only [Nat.zero_add]
  rw [Array.getD_eq_getD_getElem?, Array.getElem?_append_left hj, Array.getElem?_eq_getElem hj]
  exact h.rel j _ c (Array.getElem?_eq_getElem hj) hc
/-- what must be known of a function -/
def fnB (hs : Nat → Bool) (fn : Func) : Bool := !(fn.name == "runtime.NumGoroutine") && match fn.body with | some c => drAll hs c | none => true
/-- what must be known of a program -/
structure EnvOk (P : Program) (X : Cfg) : Prop where
  mixed : P.follows .mixedOrders = true
  fns : ∀ f fn, X.fns f = true → P.funcs[f]? = some fn → fnB X.hs fn = true
  ext : ∀ g h as r, X.ext g = some h → h as = some r → (∃ fn, P.funcs[g]? = some fn ∧ fn.body.isNone = false ∧ (fn.name == "runtime.NumGoroutine") = false) ∧ IsoOk P X.G g as r
theorem pbody_sound {P : Program} {X : Cfg} {C : Orc} (hE : EnvOk P X) (hC : OrcOk P X.G C) (hh : C.hs = X.hs) {f fuel : Nat} {fn : Func} {as : List PV} {hp hp' : List Box} {r : PV} (hfn : fnd P X f = some fn) (h : pbody P X C f fuel fn as hp = some (r, hp')) :
    (fn.body.isNone = false ∧ (fn.name == "runtime.NumGoroutine") = false) ∧ ShrOk P X.G f as hp r hp' := by
  have hf := (fnd_some hfn).2
  have hfb := hE.fns _ _ (fnd_some hfn).1 hf
  unfold fnB at hfb
  simp only [Bool.and_eq_true, Bool.not_eq_true'] at hfb
  obtain ⟨hnm, hdr0⟩ := hfb
  unfold pbody at h
  split at h
  · rename_i c hc
    split at h
    · cases h
    · rename_i hnt
      have hdr : drAll C.hs c = true := by simp only [hc] at hdr0; rw [hh]; exact hdr0
      refine ⟨⟨by rw [hc]; rfl, hnm⟩, fun B H ρ w vs hw hq hg ha => ?_⟩
      obtain ⟨s1, s2⟩ := start_rel (n := fn.ntmps) ha (by omega)
      have h0 : StR X.G B H ρ w { tmps := vs ++ Array.replicate (fn.ntmps - vs.size) undef, defers := [] } ⟨start fn.ntmps as, hp⟩ := ⟨hw, hq, hg, rfl, s1, s2⟩
      have fin : ∀ (a' : Act) (w' : World) (H' : GH) (ρ' : RM) (s : PS) (r : PV), Stp hp.length B H ρ w H' ρ' w' → StR X.G B H' ρ' w' a' s → presults P fn s = some r → a'.defers = [] ∧ ∃ v, (results fn a'.tmps).run P w' = .ok v w' ∧ ∃ z H'' ρ'', Ending.returned v = .returned z ∧ Step B H ρ w H'' ρ'' w' ∧ WR B H'' ρ'' w' s.hp ∧ SQ ρ'' s.hp ∧ Rel H'' ρ'' z r := fun a' w' H' ρ' s r k1 k2 k3 => by
        obtain ⟨z, z1, z2⟩ := presults_sound k2 k3
        refine ⟨k2.df, z, z1, z, H', ρ', rfl, ⟨k1.hH, fun i x hx => ?_, k1.old, k1.bel⟩, k2.wr, k2.sq, z2⟩
        refine k1.hρ i x ?_ hx
        rcases Nat.lt_or_ge i hp.length with hl | hl
        · exact hl
        · rw [hq.fresh i hl] at hx; cases hx
      refine calls_of_wp hf hc ?_
      split at h
      · rename_i s h1
        split at h
        · rename_i r' h2
          cases h
          exact pcode_sound hE.mixed hC c hdr _ H ρ w _ _ s .normal h0 h1 fun a' w' H' ρ' k1 k2 => fin a' w' H' ρ' s r k1 k2 h2
        · cases h
      · rename_i s h1
        split at h
        · rename_i r' h2
          cases h
          exact pcode_sound hE.mixed hC c hdr _ H ρ w _ _ s .ret h0 h1 fun a' w' H' ρ' k1 k2 => fin a' w' H' ρ' s r k1 k2 h2
        · cases h
      · cases h
  · cases h
theorem lookup_mem {f : Nat} {fn : Func} : ∀ {l : List (Nat × Func)}, l.lookup f = some fn → (f, fn) ∈ l := by
  intro l
  induction l with
  | nil => intro h; cases h
  | cons p l ih =>
    intro h
    rw [List.lookup_cons] at h
    split at h
    · rename_i e; cases h; have := beq_iff_eq.1 e; subst this; exact List.mem_cons_self ..
    · exact List.mem_cons_of_mem _ (ih h)
theorem sq_nil : SQ RM.nil [] := ⟨fun id b h => by simp at h, fun _ _ => rfl⟩
theorem shr_sound {P : Program} {X : Cfg} (hE : EnvOk P X) : ∀ n, OrcOk P X.G (orc P X n) := by
  have iso_of : ∀ n, (∀ g as hp r hp', shr P X n g as hp = some (r, hp') → (∃ fn, P.funcs[g]? = some fn ∧ fn.body.isNone = false ∧ (fn.name == "runtime.NumGoroutine") = false) ∧ ShrOk P X.G g as hp r hp') → OrcOk P X.G (orc P X n) := fun n hs => by
    refine ⟨fun g as r h => ?_, hs⟩
    simp only [orc, iso] at h
    split at h
    · rename_i h' hx
      exact hE.ext g h' as r hx h
    · split at h
      · rename_i r0 hp' h1
        obtain ⟨⟨p', q⟩, h2, e⟩ := Option.map_eq_some_iff.1 h
        simp only at e; subst e
        obtain ⟨k1, k2⟩ := hs _ _ _ _ _ h1
        refine ⟨k1, fun w H vs hsub hg ha => ?_⟩
        refine (k2 (fun b => b < w.heap.size) H RM.nil w vs ⟨hsub, fun _ hk => hk, fun id bx b cap h => by simp at h, fun i j bi bj b c c' h => by simp at h⟩ sq_nil hg ha).mono fun e w' he => ?_
        obtain ⟨v, H', ρ', rfl, m1, m2, m3, m4⟩ := he
        obtain ⟨H2, kn, r2⟩ := fz_sound deep H' hp' v r0 p' q m2 m4 h2
        exact ⟨v, H2, rfl, m1.bel.below, m1.hH.trans kn.hH, fun b o x hb hx => m1.old b o x hb (kn.old b o x hb hx), kn.wr.sub, r2⟩
      · cases h
  intro n
  induction n with
  | zero => exact iso_of 0 fun g as hp r hp' h => by simp only [shr] at h; cases h
  | succ n ih =>
    refine iso_of (n + 1) fun g as hp r hp' h => ?_
    rw [shr_succ] at h
    split at h
    · rename_i fn hfn
      obtain ⟨⟨k1, k2⟩, k3⟩ := pbody_sound hE ih rfl hfn h
      exact ⟨⟨fn, (fnd_some hfn).2, k1, k2⟩, k3⟩
    · cases h
/-- **a call with plain values does what the reader says** -/
theorem iso_sound {P : Program} {X : Cfg} (hE : EnvOk P X) {n g : Nat} {as : List PV} {r : PV} (h : iso P X n g as = some r) : IsoOk P X.G g as r := ((shr_sound hE n).iso g as r h).2
theorem all_nil {α : Type} {p : α → Prop} : ∀ x ∈ ([] : List α), p x := fun x hx => by simp at hx
theorem all_cons {α : Type} {p : α → Prop} {a : α} {l : List α} (h : p a) (hl : ∀ x ∈ l, p x) : ∀ x ∈ a :: l, p x := fun x hx => by
  rcases List.mem_cons.1 hx with rfl | hx
  · exact h
  · exact hl x hx
end Go.Proofs.YtfhojpnofmlkdaaDoor.Pv
