/- Operations over plain values and boxes, all of them; regions in the order of the text. -/
import Derived.Test.YtfhojpnofmlkdaaDoorPvQ
namespace Go.Proofs.YtfhojpnofmlkdaaDoor.Pv
open Go.RowKit
set_option linter.unusedSimpArgs false
set_option linter.unusedVariables false
set_option maxHeartbeats 1000000

/-- the slots: n of them; of a slot that is not listed nothing is known -/
structure TS where
  n : Nat
  l : List (Nat × PV)
abbrev TS.length (ts : TS) : Nat := ts.n
structure PS where
  tmps : TS
  hp : List Box
def lk : List (Nat × PV) → Nat → PV
  | [], _ => .any
  | (k, v) :: r, t => if k = t then v else lk r t
def getT (ts : TS) (t : Nat) : PV := lk ts.l t
def evP (G : Nat → List PV) (ts : TS) : Operand → PV
  | .tmp t => getT ts t
  | .const v => ofConst v
  | .global g => .cptr (G g)
  | .func f => .fn f []
def putT (ts : TS) (d : Option Tmp) (v : PV) : TS := match d with | some t => if t < ts.n then ⟨ts.n, (t, v) :: ts.l⟩ else ts | none => ts
/-- a list, laid out -/
def forceL {α β : Type} : List α → (List α → β) → β
  | [], k => k []
  | x :: xs, k => forceL xs fun ys => k (x :: ys)
theorem forceL_eq {α β : Type} : ∀ (l : List α) (k : List α → β), forceL l k = k l
  | [], _ => rfl
  | x :: xs, k => by rw [forceL, forceL_eq xs]
/-- a value, its head laid out -/
def PV.force {β : Type} (v : PV) (k : PV → β) : β :=
  match v with
  | .any => k .any
  | .bool b => match b with | true => k (.bool true) | false => k (.bool false)
  | .int kd n => match n with | .ofNat m => k (.int kd (.ofNat m)) | .negSucc m => k (.int kd (.negSucc m))
  | .str s => k (.str s)
  | .agg cs => forceL cs fun cs => k (.agg cs)
  | .tup cs => forceL cs fun cs => k (.tup cs)
  | .nils => k .nils
  | .emp => k .emp
  | .lst sz es => k (.lst sz es)
  | .sl id sz off len => k (.sl id sz off len)
  | .cptr cs => forceL cs fun cs => k (.cptr cs)
  | .ptr id off => k (.ptr id off)
  | .nilp => k .nilp
  | .fn f cs => forceL cs fun cs => k (.fn f cs)
  | .nilfn => k .nilfn
  | .ifc t v => k (.ifc t v)
  | .nilifc => k .nilifc
  | .own id sz es => k (.own id sz es)
theorem PV.force_eq {β : Type} (v : PV) (k : PV → β) : v.force k = k v := by
  cases v <;> simp only [PV.force, forceL_eq]
  · rename_i b; cases b <;> rfl
  · rename_i n; cases n <;> rfl
/-- no address in it -/
def flatB : Nat → PV → Bool
  | 0, _ => false
  | d + 1, v =>
    match v with
    | .bool _ | .int _ _ | .str _ | .nils | .emp | .nilp | .nilfn | .nilifc => true
    | .agg cs => cs.all (flatB d)
    | .tup cs => cs.all (flatB d)
    | _ => false
theorem flatB_flat : ∀ (d : Nat) (v : PV), flatB d v = true → Flat v := by
  intro d; induction d with
  | zero => intro v h; simp [flatB] at h
  | succ d ih =>
    intro v h
    unfold flatB at h
    split at h <;> first | (constructor; done) | skip
    · refine .agg _ fun i c hc => ih c (List.all_eq_true.1 h c (List.mem_of_getElem? hc))
    · refine .tup _ fun i c hc => ih c (List.all_eq_true.1 h c (List.mem_of_getElem? hc))
    · cases h
/-- no box in it -/
def noBoxB : Nat → PV → Bool
  | 0, _ => false
  | d + 1, v =>
    match v with
    | .sl _ _ _ _ | .ptr _ _ | .own _ _ _ => false
    | .agg cs => cs.all (noBoxB d)
    | .tup cs => cs.all (noBoxB d)
    | .fn _ cs => cs.all (noBoxB d)
    | .ifc _ x => noBoxB d x
    | _ => true
theorem noBox_nil {H : GH} {ρ : RM} : ∀ (d : Nat) (v : Value) (p : PV), noBoxB d p = true → Rel H ρ v p → Rel H RM.nil v p := by
  intro d; induction d with
  | zero => intro v p h; simp [noBoxB] at h
  | succ d ih =>
    intro v p h hx
    unfold noBoxB at h
    cases hx with
    | any => exact .any _
    | bool => exact .bool _
    | int => exact .int _ _
    | str => exact .str _
    | agg vs cs hl hr => exact .agg _ _ hl fun i v c hv hc => ih v c (List.all_eq_true.1 h c (List.mem_of_getElem? hc)) (hr i v c hv hc)
    | tup vs cs hl hr => exact .tup _ _ hl fun i v c hv hc => ih v c (List.all_eq_true.1 h c (List.mem_of_getElem? hc)) (hr i v c hv hc)
    | nils => exact .nils
    | emp => exact .emp _
    | lst a cap sz es b o g ec hcap ha h1 he hr => exact .lst a cap sz es b o g ec hcap ha h1 he hr
    | sl => cases h
    | cptr b o cs g h1 hr => exact .cptr b o cs g h1 hr
    | ptr => cases h
    | nilp => exact .nilp
    | fn f vs cs hl hr => exact .fn _ _ _ hl fun i v c hv hc => ih v c (List.all_eq_true.1 h c (List.mem_of_getElem? hc)) (hr i v c hv hc)
    | nilfn => exact .nilfn
    | ifc t v x hr => exact .ifc _ _ _ (ih _ _ h hr)
    | nilifc => exact .nilifc
    | own => cases h
/-- part of the plain memory, more of it -/
theorem WR.part {B : Nat → Prop} {H : GH} {ρ : RM} {w : World} {hp more : List Box} (h : WR B H ρ w (hp ++ more)) : WR B H ρ w hp :=
  ⟨h.sub, h.base, fun id bx b cap h1 => h.box id bx b cap (by rw [List.getElem?_append_left (List.getElem?_eq_some_iff.1 h1).1]; exact h1), fun i j bi bj b c c' h1 h2 => h.inj i j bi bj b c c' (by rw [List.getElem?_append_left (List.getElem?_eq_some_iff.1 h1).1]; exact h1) (by rw [List.getElem?_append_left (List.getElem?_eq_some_iff.1 h2).1]; exact h2)⟩
theorem WR.ext {B : Nat → Prop} {H : GH} {ρ : RM} {w : World} : ∀ {more hp : List Box}, WR B H ρ w hp → (∀ id, hp.length ≤ id → ρ id = none) → WR B H ρ w (hp ++ more) := by
  intro more
  induction more with
  | nil => intro hp h _; simpa using h
  | cons bx more ih =>
    intro hp h hf
    have := ih (h.more bx (hf _ (Nat.le_refl _))) (fun id hid => hf id (by simp at hid; omega))
    simpa using this
/-- what is called: 'iso' with plain values alone, 'shr' over the caller's boxes; sh says which -/
structure Orc where
  iso : Nat → List PV → Option PV
  shr : Nat → List PV → List Box → Option (PV × List Box)
  sh : Nat → Bool
  un : List (Nat × Nat)
/-- these boxes nobody writes for a while -/
def Orc.wu (C : Orc) (U : List (Nat × Nat)) : Orc := ⟨C.iso, C.shr, C.sh, U⟩
/-- what more is said of functions and types, by number -/
def far : Nat := 2000000
def Orc.hs (C : Orc) : Nat → Bool := fun g => C.sh (g + far)
/-- the boxes of a call that was given none, behind n boxes -/
def shN (n len : Nat) : Nat → Option Nat := fun i => if i < len then some (i + n) else none
def shiftP (n len : Nat) (v : PV) : PV := ren (shN n len) deep v
def shiftB (n len : Nat) (bx : Box) : Box := ⟨bx.sz, bx.cells.map (shiftP n len), bx.st⟩
def pfresh (C : Orc) (g : Nat) (as : List PV) (n : Nat) : Option (PV × List Box) :=
  match C.shr g as [] with
  | some (r, bxs) => some (shiftP n bxs.length r, bxs.map (shiftB n bxs.length))
  | none => none
/-- the boxes of a value -/
def boxesIn : Nat → PV → List Nat
  | 0, _ => []
  | d + 1, v =>
    match v with
    | .sl id _ _ _ => [id]
    | .ptr id _ => [id]
    | .own id _ _ => [id]
    | .agg cs => cs.flatMap (boxesIn d)
    | .tup cs => cs.flatMap (boxesIn d)
    | .fn _ cs => cs.flatMap (boxesIn d)
    | .ifc _ x => boxesIn d x
    | _ => []
def posIn : List Nat → Nat → Option Nat
  | [], _ => none
  | k :: ks, i => match Nat.beq k i with | true => some 0 | false => (posIn ks i).map (· + 1)
/-- the boxes that are reached -/
def reach (hp : List Box) : Nat → List Nat → List Nat → List Nat
  | 0, _, ds => ds
  | _ + 1, [], ds => ds
  | n + 1, i :: t, ds =>
    match ds.any (Nat.beq i) with
    | true => reach hp n t ds
    | false => match hp[i]? with
      | some bx => reach hp n (t ++ bx.cells.flatMap (boxesIn deep)) (ds ++ [i])
      | none => reach hp n t ds
def renB (m : Nat → Option Nat) (bx : Box) : Box := ⟨bx.sz, bx.cells.map (ren m deep), bx.st⟩
def pick (hp : List Box) (ids : List Nat) : List Box := ids.map fun i => renB (posIn ids) (match hp[i]? with | some bx => bx | none => ⟨0, [], 2⟩)
def backM (ids : List Nat) (n : Nat) : Nat → Option Nat := fun j => match ids[j]? with | some i => some i | none => some (n + (j - ids.length))
def setAll (m : Nat → Option Nat) : List Box → List Nat → List Box → List Box
  | hp, [], bs => hp ++ bs.map (renB m)
  | hp, i :: ids, b :: bs => setAll m (hp.set i (renB m b)) ids bs
  | hp, _ :: _, [] => hp
def nodB : List Nat → Bool
  | [] => true
  | k :: ks => !ks.any (Nat.beq k) && nodB ks
/-- a call that is given some of the boxes -/
def psubI (C : Orc) (g : Nat) (as : List PV) (hp : List Box) (ids : List Nat) : Option (PV × List Box) :=
  match nodB ids && ids.all fun i => Nat.blt i hp.length with
  | true => match C.shr g (as.map (ren (posIn ids) deep)) (pick hp ids) with
    | some (r, hp') => match Nat.ble ids.length hp'.length with
      | true => some (ren (backM ids hp.length) deep r, setAll (backM ids hp.length) hp ids hp')
      | false => none
    | none => none
  | false => none
def psub (C : Orc) (g : Nat) (as : List PV) (hp : List Box) : Option (PV × List Box) := psubI C g as hp (reach hp 10000 (as.flatMap (boxesIn deep)) [])
def pcallv (C : Orc) (f : PV) (as : List PV) (hp : List Box) : Option (PV × List Box) :=
  match f with
  | .fn g caps =>
    if C.sh g = true then (if (as ++ caps).all (noBoxB deep) = true then (pfresh C g (as ++ caps) hp.length).map fun (r, more) => (r, hp ++ more) else psub C g (as ++ caps) hp)
    else if (as ++ caps).all (noBoxB deep) = true then (C.iso g (as ++ caps)).map fun r => (r, hp)
    else
      match fzL (fz deep) hp (as ++ caps) with
      | some (as', hp') =>
        match C.iso g as' with
        | some r => if flatB deep r = true then some (r, hp) else some (r, hp')
        | none => none
      | none => none
  | _ => none
/-- an empty literal -/
def pemp (P : Program) (T : TypeId) (parts : Array (Nat × Operand)) : Option PV :=
  match P.underlying T with
  | some (.slice E) => if (szT P E).isSome = true ∧ parts.size = 0 then some .emp else none
  | _ => none
theorem pemp_sound {P : Program} {B : Nat → Prop} {pv : PV} {ev : Operand → Value} {o : Oper} {T : TypeId} {parts : Array (Nat × Operand)} {H : GH} {ρ : RM} {w : World} {hp : List Box} (hw : WR B H ρ w hp) (ho : o.op = .buildSlice T 0 parts) (h : pemp P T parts = some pv) :
    ∃ z w', (execOp ev o).run P w = .ok (.value z) w' ∧ Step B H ρ w H ρ w' ∧ WR B H ρ w' hp ∧ Rel H ρ z pv := by
  obtain ⟨dst, op, ty, pos, aft, gd⟩ := o
  simp only at ho
  subst ho
  unfold pemp at h
  split at h
  · rename_i E hT
    split at h
    · rename_i hc
      cases h
      obtain ⟨n, hn⟩ := Option.isSome_iff_exists.1 hc.1
      have hp0 : parts = #[] := Array.eq_empty_of_size_eq_zero hc.2
      subst hp0
      have hb : Below w.heap.size w (w.alloc (.cells #[] E)) := (Below.refl _ _).alloc (Nat.le_refl _) _
      refine ⟨.slice (some ⟨w.heap.size, 0, none⟩) 0 0, w.alloc (.cells #[] E), ?_, ⟨.refl _, .refl _, fun _ _ _ _ h => h, Below_bel hb hw.base⟩, hw.keep hb (.refl _) (fun _ _ _ _ h => h) (sub_below hw.sub hb), .emp _⟩
      unfold execOp
      simp only [Instr.buildSlice, Sem.run_bind, r_und hT, r_size hn, Result.andThen_ok]
      simp [Sem.run_bind, Instr.fill, newRow, newObj, Sem.run, World.alloc_eq]
      have e0 : Array.map (fun x => default) (Array.range 0) = (#[] : Array Value) := Array.eq_empty_of_size_eq_zero (by simp)
      rw [e0]
    · cases h
  · cases h
/-- a variable that is only read -/
def pfrzB (v : PV) : Option PV := match v.cells? with | some cs => if cs.all (noBoxB deep) = true then some (.cptr cs) else none | none => none
theorem pfrzB_sound {P : Program} {B : Nat → Prop} {hpn : List Box} {ev : Operand → Value} {o : Oper} {T : TypeId} {x : Operand} {p r : PV} {H : GH} {ρ : RM} {w : World} (hw : WR B H ρ w hpn) (ho : o.op = .box T x) (h : pfrzB p = some r) (hx : Rel H ρ (ev x) p) :
    ∃ z w' H', (execOp ev o).run P w = .ok (.value z) w' ∧ Step B H ρ w H' ρ w' ∧ WR B H' ρ w' hpn ∧ Rel H' ρ z r := by
  obtain ⟨dst, op, ty, pos, aft, gd⟩ := o
  simp only at ho
  subst ho
  unfold pfrzB at h
  split at h
  · rename_i cs hcs
    split at h
    · rename_i hnb
      cases h
      obtain ⟨h2, h3⟩ := Rel.cells hx hcs
      obtain ⟨H', k1, k2, k3⟩ := hw.know (arr := (ev x).cells) (T := T) h2 (fun j v c hv hc => noBox_nil deep v c (List.all_eq_true.1 hnb c (List.mem_of_getElem? hc)) (h3 j v c hv hc))
      exact ⟨_, _, H', by simp [execOp, Instr.box, Sem.run_bind, newVar, newRow, newObj, Sem.run, World.alloc_eq], k1, k2, k3⟩
    · cases h
  · cases h
/-- append, in one of two ways -/
def pappM (own : Bool) (P : Program) (hp : List Box) (id : Nat) (T X : TypeId) (s t : PV) : Option (PV × List Box) :=
  match own with
  | false => pappend P hp id T X s t
  | true => match s with | .sl _ _ _ _ => pappend P hp id T X s t | s => pappO P hp id T X s t
/-- what an operation leaves, and the boxes behind it -/
def pop (P : Program) (C : Orc) (ev : Operand → PV) (hp : List Box) (op : Op) : Option (PV × List Box) :=
  match op with
  | .load T x => (pload P hp T (ev x)).map fun v => (v, hp)
  | .store T p x => (pstore P hp T (ev p) (ev x)).map fun hp' => (.tup [], hp')
  | .buildSlice T 0 parts => (pemp P T parts).map fun v => (v, hp)
  | .box T x => if C.hs (5000000 + T) = true then (pfrzB (ev x)).map fun v => (v, hp) else (pnew P ev hp.length (.box T x)).map fun (v, bx) => (v, hp ++ [bx])
  | .alloc _ | .buildSlice _ _ _ | .makeSlice _ _ _ => (pnew P ev hp.length op).map fun (v, bx) => (v, hp ++ [bx])
  | .call { callee := .builtin .append, args, argTypes } =>
    match argTypes[0]?, argTypes[1]?, args.toList with
    | some T, some X, [s, t] => pappM (C.sh 1000000) P hp hp.length T X (ev s) (ev t)
    | _, _, _ => none
  | .call { callee := .value f, args, .. } => pcallv C (ev f) (args.toList.map ev) hp
  | .convert s t x => if C.hs (1000000 + t) = true then (pconvM P hp s t (ev x)).map fun v => (v, hp) else (popA P ev (.convert s t x)).map fun v => (v, hp)
  | op => (popA P ev op).map fun v => (v, hp)

def GRel (H : GH) (G : Nat → List PV) : Prop := ∀ g, Rel H RM.nil (.pointer (some ⟨g, 0, none⟩)) (.cptr (G g))
theorem GRel.mono {H H' : GH} {G : Nat → List PV} (h : GRel H G) (hH : H.le H') : GRel H' G := fun g => (h g).mono hH (.refl _)
structure Args (H : GH) (ρ : RM) (vs : Array Value) (as : List PV) : Prop where
  len : vs.size = as.length
  rel : ∀ (i : Nat) v c, vs[i]? = some v → as[i]? = some c → Rel H ρ v c
def IsoOk (P : Program) (G : Nat → List PV) (g : Nat) (as : List PV) (r : PV) : Prop :=
  ∀ (w : World) (H : GH) (vs : Array Value), (∀ b o v, H b o = some v → w.cell? ⟨b, o, none⟩ = some v) → GRel H G → Args H RM.nil vs as →
    Calls P g vs w fun e w' => ∃ v H', e = .returned v ∧ Below w.heap.size w w' ∧ H.le H' ∧ (∀ b o v, b < w.heap.size → H' b o = some v → H b o = some v) ∧ (∀ b o v, H' b o = some v → w'.cell? ⟨b, o, none⟩ = some v) ∧ Rel H' RM.nil v r
def ShrOk (P : Program) (G : Nat → List PV) (g : Nat) (as : List PV) (hp : List Box) (r : PV) (hp' : List Box) : Prop :=
  ∀ (B : Nat → Prop) (H : GH) (ρ : RM) (w : World) (vs : Array Value), WR B H ρ w hp → SQ ρ hp → GRel H G → Args H ρ vs as →
    Calls P g vs w fun e w' => ∃ v H' ρ', e = .returned v ∧ Step B H ρ w H' ρ' w' ∧ WR B H' ρ' w' hp' ∧ SQ ρ' hp' ∧ Rel H' ρ' v r
/-- what is known of the functions that are called -/
structure OrcOk (P : Program) (G : Nat → List PV) (C : Orc) : Prop where
  iso : ∀ g as r, C.iso g as = some r → (∃ fn, P.funcs[g]? = some fn ∧ fn.body.isNone = false ∧ (fn.name == "runtime.NumGoroutine") = false) ∧ IsoOk P G g as r
  shr : ∀ g as hp r hp', C.shr g as hp = some (r, hp') → (∃ fn, P.funcs[g]? = some fn ∧ fn.body.isNone = false ∧ (fn.name == "runtime.NumGoroutine") = false) ∧ ShrOk P G g as hp r hp'

structure StR (G : Nat → List PV) (B : Nat → Prop) (H : GH) (ρ : RM) (w : World) (a : Act) (s : PS) : Prop where
  wr : WR B H ρ w s.hp
  sq : SQ ρ s.hp
  gr : GRel H G
  df : a.defers = []
  sz : a.tmps.size = s.tmps.length
  tm : ∀ t, Rel H ρ (a.tmps.getD t undef) (getT s.tmps t)

theorem ev_rel {G : Nat → List PV} {H : GH} {ρ : RM} {a : Act} {ts : TS} (hg : GRel H G) (ht : ∀ t, Rel H ρ (a.tmps.getD t undef) (getT ts t)) (x : Operand) : Rel H ρ (a.eval x) (evP G ts x) := by
  cases x with
  | tmp t => exact ht t
  | const v => exact ofConst_rel H ρ v
  | global g => exact (hg g).up
  | func f => exact .fn f #[] [] rfl (fun i v c hv => by simp at hv)
theorem putT_n (ts : TS) (d : Option Tmp) (v : PV) : (putT ts d v).n = ts.n := by
  unfold putT; split
  · split <;> rfl
  · rfl
theorem putT_get (ts : TS) (d : Option Tmp) (v : PV) (t : Nat) : getT (putT ts d v) t = if t < ts.n ∧ d = some t then v else getT ts t := by
  cases d with
  | none => simp [putT]
  | some d =>
    simp only [putT, Option.some.injEq]
    by_cases hd : d < ts.n
    · rw [if_pos hd]
      simp only [getT, lk]
      by_cases e : d = t
      · subst e; rw [if_pos rfl, if_pos ⟨hd, rfl⟩]
      · rw [if_neg e, if_neg (fun h => e h.2)]
    · rw [if_neg hd, if_neg (fun h => hd (by rw [h.2]; exact h.1))]
theorem put_rel {H : GH} {ρ : RM} {a : Act} {ts : TS} {d : Option Tmp} {z : Value} {v : PV} (hs : a.tmps.size = ts.n) (ht : ∀ t, Rel H ρ (a.tmps.getD t undef) (getT ts t)) (hz : Rel H ρ z v) : (a.put d z).tmps.size = (putT ts d v).n ∧ ∀ t, Rel H ρ ((a.put d z).tmps.getD t undef) (getT (putT ts d v) t) := by
  rw [putT_n]
  cases d with
  | none => exact ⟨hs, ht⟩
  | some d =>
    refine ⟨by simp [Act.put, hs], fun t => ?_⟩
    rw [putT_get]
    simp only [Act.put, Array.getD_eq_getD_getElem?, Array.getElem?_setIfInBounds, Option.some.injEq]
    have := ht t
    rw [Array.getD_eq_getD_getElem?] at this
    by_cases e : d = t
    · subst e
      rw [if_pos rfl, hs]
      by_cases hd : d < ts.n
      · rw [if_pos hd, if_pos ⟨hd, rfl⟩]; exact hz
      · rw [if_neg hd, if_neg (fun h => hd h.1)]
        rw [Array.getElem?_eq_none (by rw [hs]; exact Nat.le_of_not_lt hd)] at this
        exact this
    · rw [if_neg e, if_neg (fun h => e h.2)]
      exact this
/-- the world has gone on, the frame stands -/
theorem StR.go {G : Nat → List PV} {B : Nat → Prop} {H H' : GH} {ρ ρ' : RM} {w w' : World} {a : Act} {s : PS} {hp' : List Box} {d : Option Tmp} {z : Value} {v : PV} (h : StR G B H ρ w a s) (k : Step B H ρ w H' ρ' w') (hw : WR B H' ρ' w' hp') (hq : SQ ρ' hp') (hz : Rel H' ρ' z v) : StR G B H' ρ' w' (a.put d z) ⟨putT s.tmps d v, hp'⟩ := by
  obtain ⟨h1, h2⟩ := put_rel (d := d) h.sz (fun t => (h.tm t).mono k.hH k.hρ) hz
  refine ⟨hw, hq, h.gr.mono k.hH, ?_, h1, h2⟩
  cases d <;> exact h.df
theorem SQ.kn {B : Nat → Prop} {H H' : GH} {ρ : RM} {w : World} {hp hp' : List Box} (h : SQ ρ hp) (k : Kn B H ρ w hp H' hp') : SQ ρ hp' := by
  refine ⟨fun id b h1 h2 => ?_, fun id h1 => h.fresh id (by rw [← k.len]; exact h1)⟩
  obtain ⟨b', h3, h4⟩ := k.st id b h1
  exact h.tot id b' h3 (by omega)
theorem Kn.step {B : Nat → Prop} {H H' : GH} {ρ : RM} {w : World} {hp hp' : List Box} (k : Kn B H ρ w hp H' hp') : Step B H ρ w H' ρ w := ⟨k.hH, .refl _, k.old, .refl _ _⟩

theorem upon_ok {P : Program} {o : Oper} {a : Act} {w w' : World} {z : Value} {next : Act → World → Prop} {Q : Exit → Act → World → Prop} (h : (execOp a.eval o).run P w = .ok (.value z) w') (k : next (a.put o.dst z) w') : o.wp P a w next Q := by
  unfold Oper.wp; rw [h]; exact k
theorem upon_skip {P : Program} {o : Oper} {a : Act} {w w' : World} {next : Act → World → Prop} {Q : Exit → Act → World → Prop} (h : (execOp a.eval o).run P w = .ok .skip w') (k : next (a.put o.dst undef) w') : o.wp P a w next Q := by
  unfold Oper.wp; rw [h]; exact k
theorem upon_enter {P : Program} {o : Oper} {a : Act} {w w' : World} {f : Nat} {vs : Array Value} {next : Act → World → Prop} {Q : Exit → Act → World → Prop} {R : Ending → World → Prop} (h : (execOp a.eval o).run P w = .ok (.enter f vs) w') (hc : Calls P f vs w' R) (k : ∀ e w'', R e w'' → ∃ z, e = .returned z ∧ next (a.put o.dst z) w'') : o.wp P a w next Q := by
  unfold Oper.wp; rw [h]
  refine hc.mono fun e w'' he => ?_
  obtain ⟨z, rfl, hz⟩ := k e w'' he
  exact hz
theorem undef_rel {H : GH} {ρ : RM} : Rel H ρ undef (.tup []) := .tup #[] [] rfl (fun i v c hv => by simp at hv)
theorem args_rel {H : GH} {ρ : RM} {ev : Operand → Value} {pv : Operand → PV} {xs : Array Operand} {vs : Array Value} {cs : List PV} (h : ∀ x ∈ xs, Rel H ρ (ev x) (pv x)) (hl : vs.size = cs.length) (hr : ∀ (i : Nat) v c, vs[i]? = some v → cs[i]? = some c → Rel H ρ v c) : Args H ρ (xs.map ev ++ vs) (xs.toList.map pv ++ cs) := by
  refine ⟨by simp [hl], fun i v c hv hc => ?_⟩
  by_cases hi : i < xs.size
  · rw [Array.getElem?_append_left (by simpa using hi), Array.getElem?_map] at hv
    rw [List.getElem?_append_left (by simpa using hi), List.getElem?_map, Array.getElem?_toList] at hc
    obtain ⟨x, hx, rfl⟩ := Option.map_eq_some_iff.1 hv
    rw [hx] at hc; cases hc
    exact h x (Array.mem_of_getElem? hx)
  · rw [Array.getElem?_append_right (by simp; omega)] at hv
    rw [List.getElem?_append_right (by simp; omega)] at hc
    simp only [Array.size_map, List.length_map, Array.length_toList] at hv hc
    exact hr _ v c hv hc
theorem call_run {P : Program} {ev : Operand → Value} {f : Operand} {args : Array Operand} {ats : Array TypeId} {dst : Option Tmp} {ty : TypeId} {pos : String} {aft : Array Edge} {gd : Option (Nat × Bool)} {w : World} {g : Nat} {vs : Array Value} {fn : Func} (hf : ev f = .func (.func g) #[] vs) (h1 : P.funcs[g]? = some fn) (h2 : fn.body.isNone = false) (h3 : (fn.name == "runtime.NumGoroutine") = false) :
    (execOp ev ⟨dst, .call ⟨.value f, args, ats⟩, ty, pos, aft, gd⟩).run P w = .ok (.enter g (args.map ev ++ vs)) w := by
  have h2' : fn.body ≠ none := by cases hb : fn.body <;> simp [hb] at h2 ⊢
  have h3' : fn.name ≠ "runtime.NumGoroutine" := by simpa using h3
  simp [execOp, resolve, hf, Deferred.ofValue, invoke, callFunc, Sem.run_bind, program, Sem.run, h1, h2', h3']
theorem new_sound {P : Program} {B : Nat → Prop} {H : GH} {ρ : RM} {w : World} {a : Act} {pv : Operand → PV} {hp0 : List Box} {o : Oper} {v : PV} {hp' : List Box} {next : Act → World → Prop} {Q : Exit → Act → World → Prop} (hwr : WR B H ρ w hp0) (hsq : SQ ρ hp0) (hev : ∀ x ∈ o.op.operands, Rel H ρ (a.eval x) (pv x))
    (hp : ((pnew P pv hp0.length o.op).map fun (v, bx) => (v, hp0 ++ [bx])) = some (v, hp'))
    (hK : ∀ z w' H' ρ', Step B H ρ w H' ρ' w' → WR B H' ρ' w' hp' → SQ ρ' hp' → Rel H' ρ' z v → next (a.put o.dst z) w') : o.wp P a w next Q := by
  obtain ⟨⟨r, bx⟩, h1, e⟩ := Option.map_eq_some_iff.1 hp
  cases e
  have hq := hsq.fresh _ (Nat.le_refl _)
  obtain ⟨z, w', x, h2, h3, h4, h5⟩ := pnew_sound (ev := a.eval) (hwr.more bx hq) h1 (by simp) hq hev
  exact upon_ok h2 (hK z w' H _ h4 h3 (hsq.more bx x) h5)
/-- **one operation** -/
theorem fresh_sound {P : Program} {G : Nat → List PV} {g n : Nat} {B : Nat → Prop} {H : GH} {ρ : RM} {w : World} {hpn bxs : List Box} {vs : Array Value} {as : List PV} {r : PV} (k : ShrOk P G g as [] r bxs) (hw : WR B H ρ w hpn) (hg : GRel H G) (ha : Args H RM.nil vs as)
    (hb : ∀ (j : Nat) bx, bxs[j]? = some bx → hpn[n + j]? = some (shiftB n bxs.length bx)) (hn : ∀ j, j < bxs.length → ρ (n + j) = none) :
    Calls P g vs w fun e w' => ∃ z H' ρ', e = .returned z ∧ Step B H ρ w H' ρ' w' ∧ WR B H' ρ' w' hpn ∧ (∀ i, ¬ (n ≤ i ∧ i < n + bxs.length) → ρ' i = ρ i) ∧ (∀ (j : Nat) bx, bxs[j]? = some bx → bx.st ≤ 1 → ∃ x, ρ' (n + j) = some x) ∧ Rel H' ρ' z (shiftP n bxs.length r) := by
  refine (k (fun b => b < w.heap.size) H RM.nil w vs ⟨hw.sub, fun _ hk => hk, fun id bx b cap h => by simp at h, fun i j bi bj b c c' h => by simp at h⟩ ⟨fun id b h => by simp at h, fun _ _ => rfl⟩ hg ha).mono fun e w' he => ?_
  obtain ⟨v, H', ρ1, rfl, hs, hw1, hq1, hv⟩ := he
  let ρ' : RM := fun i => if n ≤ i ∧ i < n + bxs.length then ρ1 (i - n) else ρ i
  have hin : ∀ j, j < bxs.length → ρ' (n + j) = ρ1 j := fun j hj => by
    show (if n ≤ n + j ∧ n + j < n + bxs.length then ρ1 (n + j - n) else ρ (n + j)) = ρ1 j
    rw [if_pos ⟨by omega, by omega⟩, Nat.add_sub_cancel_left]
  have hout : ∀ i, ¬ (n ≤ i ∧ i < n + bxs.length) → ρ' i = ρ i := fun i hi => if_neg hi
  have hm : ∀ i j, shN n bxs.length i = some j → ρ' j = ρ1 i := fun i j h => by
    unfold shN at h
    split at h
    · rename_i hi; cases h; rw [Nat.add_comm]; exact hin i hi
    · cases h
  have hle : ρ.le ρ' := fun i x hx => by
    by_cases hi : n ≤ i ∧ i < n + bxs.length
    · have := hn (i - n) (by omega)
      rw [show n + (i - n) = i by omega, hx] at this; cases this
    · rw [hout i hi]; exact hx
  have hlt : ∀ i bi b c, hpn[i]? = some bi → bi.st ≠ 2 → ρ i = some (b, c) → b < w.heap.size := fun i bi b c a1 a2 a3 => (hw.box i bi b c a1 a2 a3).2.lt
  have new : ∀ i bi b c, (n ≤ i ∧ i < n + bxs.length) → hpn[i]? = some bi → bi.st ≠ 2 → ρ' i = some (b, c) → ∃ b0, bxs[i - n]? = some b0 ∧ bi = shiftB n bxs.length b0 ∧ b0.st ≠ 2 ∧ ρ1 (i - n) = some (b, c) := fun i bi b c hi a1 a2 a3 => by
    obtain ⟨b0, h0⟩ : ∃ b0, bxs[i - n]? = some b0 := ⟨_, List.getElem?_eq_getElem (by omega)⟩
    have h1 := hb _ _ h0
    rw [show n + (i - n) = i by omega, a1] at h1
    cases h1
    refine ⟨_, h0, rfl, a2, ?_⟩
    have := hin (i - n) (by omega)
    rw [show n + (i - n) = i by omega, a3] at this
    exact this.symm
  refine ⟨v, H', ρ', rfl, ⟨hs.hH, hle, fun b o v hb hv => hs.old b o v (hw.base _ hb) hv, hs.bel.mono hw.base⟩, ⟨hw1.sub, fun k hk => Nat.lt_of_lt_of_le (hw.base k hk) hs.bel.size, fun i bi b c a1 a2 a3 => ?_, fun i j bi bj b c c' a1 a2 a3 a4 a5 a6 => ?_⟩, hout, fun j bx hj hst => ?_, ren_rel hm _ _ _ hv⟩
  · by_cases hi : n ≤ i ∧ i < n + bxs.length
    · obtain ⟨b0, h0, rfl, h2, h3⟩ := new i bi b c hi a1 a2 a3
      obtain ⟨hB, arr, T, q1, q2, q3, q4, q5, q6⟩ := hw1.box _ _ _ _ h0 h2 h3
      refine ⟨fun hk => hB (hw.base _ hk), arr, T, q1, q2, by simpa [shiftB] using q3, fun q v c hv hc => ?_, q5, fun e => ?_⟩
      · simp only [shiftB, List.getElem?_map] at hc
        obtain ⟨c0, hc0, rfl⟩ := Option.map_eq_some_iff.1 hc
        exact ren_rel hm _ _ _ (q4 q v c0 hv hc0)
      · obtain ⟨m1, m2⟩ := q6 e
        refine ⟨fun o ho => m1 o (by simpa [shiftB] using ho), fun q c hc => ?_⟩
        simp only [shiftB, List.getElem?_map] at hc
        obtain ⟨c0, hc0, rfl⟩ := Option.map_eq_some_iff.1 hc
        obtain ⟨v, l1, l2, l3⟩ := m2 q c0 hc0
        exact ⟨v, l1, l2, ren_rel (ρ := RM.nil) (ρ' := RM.nil) (fun _ _ _ => rfl) _ _ _ l3⟩
    · rw [hout i hi] at a3
      obtain ⟨hB, hbx⟩ := hw.box i bi b c a1 a2 a3
      exact ⟨hB, hbx.keep (hs.bel.block b hbx.lt) hs.hH hle (fun o v => hs.old b o v hbx.lt)⟩
  · by_cases hi : n ≤ i ∧ i < n + bxs.length
    · obtain ⟨b0, h0, _, h2, h3⟩ := new i bi b c hi a1 a3 a5
      have hb1 : ¬ b < w.heap.size := (hw1.box _ _ _ _ h0 h2 h3).1
      by_cases hj : n ≤ j ∧ j < n + bxs.length
      · obtain ⟨b0', h0', _, h2', h3'⟩ := new j bj b c' hj a2 a4 a6
        have := hw1.inj _ _ _ _ _ _ _ h0 h0' h2 h2' h3 h3'
        omega
      · rw [hout j hj] at a6
        have := hlt j bj b c' a2 a4 a6
        omega
    · rw [hout i hi] at a5
      have hb1 := hlt i bi b c a1 a3 a5
      by_cases hj : n ≤ j ∧ j < n + bxs.length
      · obtain ⟨b0', h0', _, h2', h3'⟩ := new j bj b c' hj a2 a4 a6
        have : ¬ b < w.heap.size := (hw1.box _ _ _ _ h0' h2' h3').1
        omega
      · rw [hout j hj] at a6
        exact hw.inj _ _ _ _ _ _ _ a1 a2 a3 a4 a5 a6
  · obtain ⟨x, hx⟩ := hq1.tot j bx hj hst
    have hjl := (List.getElem?_eq_some_iff.1 hj).1
    exact ⟨x, by rw [hin j hjl]; exact hx⟩
theorem pfresh_some {C : Orc} {g n : Nat} {as : List PV} {r : PV} {more : List Box} (h : pfresh C g as n = some (r, more)) : ∃ r0 bxs, C.shr g as [] = some (r0, bxs) ∧ r = shiftP n bxs.length r0 ∧ more = bxs.map (shiftB n bxs.length) := by
  unfold pfresh at h
  split at h
  · rename_i r0 bxs e; cases h; exact ⟨r0, bxs, e, rfl, rfl⟩
  · cases h
theorem nodB_nodup : ∀ {ids : List Nat}, nodB ids = true → ids.Nodup
  | [], _ => List.nodup_nil
  | k :: ks, h => by
    unfold nodB at h
    simp only [Bool.and_eq_true, Bool.not_eq_true', List.any_eq_false] at h
    refine List.nodup_cons.2 ⟨fun hk => ?_, nodB_nodup h.2⟩
    exact h.1 k hk (Nat.beq_refl k)
theorem posIn_some : ∀ {ids : List Nat} {i j : Nat}, posIn ids i = some j → ids[j]? = some i
  | [], i, j, h => by simp [posIn] at h
  | k :: ks, i, j, h => by
    unfold posIn at h
    split at h
    · rename_i e; cases h; rw [Nat.eq_of_beq_eq_true e]; rfl
    · obtain ⟨j', h', rfl⟩ := Option.map_eq_some_iff.1 h
      simpa using posIn_some h'
theorem posIn_none : ∀ {ids : List Nat} {i : Nat}, posIn ids i = none → i ∉ ids
  | [], i, _ => by simp
  | k :: ks, i, h => by
    unfold posIn at h
    split at h
    · cases h
    · rename_i e
      have h' : posIn ks i = none := by cases hq : posIn ks i <;> simp [hq] at h ⊢
      intro hm
      rcases List.mem_cons.1 hm with rfl | hm
      · rw [Nat.beq_refl] at e; cases e
      · exact posIn_none h' hm
theorem posIn_of {ids : List Nat} {i j : Nat} (hn : ids.Nodup) (h : ids[j]? = some i) : posIn ids i = some j := by
  cases hp : posIn ids i with
  | none => exact absurd (List.mem_of_getElem? h) (posIn_none hp)
  | some j' =>
    have h' := posIn_some hp
    have e : ids[j']? = ids[j]? := h'.trans h.symm
    have hl := (List.getElem?_eq_some_iff.1 h').1
    rw [(List.getElem?_inj hl hn).1 e]
theorem posIn_self (k : Nat) (ks : List Nat) : posIn (k :: ks) k = some 0 := by
  show (match Nat.beq k k with | true => some 0 | false => (posIn ks k).map (· + 1)) = some 0
  rw [Nat.beq_refl]
theorem posIn_ne {k i : Nat} (ks : List Nat) (e : ¬ k = i) : posIn (k :: ks) i = (posIn ks i).map (· + 1) := by
  show (match Nat.beq k i with | true => some 0 | false => (posIn ks i).map (· + 1)) = _
  cases hq : Nat.beq k i with
  | false => rfl
  | true => exact absurd (Nat.eq_of_beq_eq_true hq) e
theorem setAll_length {m : Nat → Option Nat} : ∀ {ids : List Nat} {hp bs : List Box}, ids.length ≤ bs.length → (setAll m hp ids bs).length = hp.length + (bs.length - ids.length)
  | [], hp, bs, _ => by simp [setAll]
  | k :: ks, hp, [], h => by simp at h
  | k :: ks, hp, b :: bs, h => by
    unfold setAll
    rw [setAll_length (by simpa using h)]
    simp
theorem setAll_get {m : Nat → Option Nat} : ∀ {ids : List Nat} {hp bs : List Box} {i : Nat}, ids.Nodup → (∀ k ∈ ids, k < hp.length) → ids.length ≤ bs.length →
    (setAll m hp ids bs)[i]? = if i < hp.length then (match posIn ids i with | some j => (bs[j]?).map (renB m) | none => hp[i]?) else (bs[i - hp.length + ids.length]?).map (renB m)
  | [], hp, bs, i, _, _, _ => by
    unfold setAll posIn
    split
    · rename_i h; simp [List.getElem?_append_left h]
    · rename_i h; rw [List.getElem?_append_right (by omega), List.getElem?_map]; rfl
  | k :: ks, hp, [], i, _, _, h => by simp at h
  | k :: ks, hp, b :: bs, i, hn, hr, h => by
    unfold setAll
    have hk := List.nodup_cons.1 hn
    rw [setAll_get hk.2 (fun x hx => by rw [List.length_set]; exact hr x (List.mem_cons_of_mem _ hx)) (by simpa using h), List.length_set]
    split
    · rename_i hi
      by_cases e : k = i
      · subst e
        have : posIn ks k = none := by
          cases hq : posIn ks k with
          | none => rfl
          | some j => exact absurd (List.mem_of_getElem? (posIn_some hq)) hk.1
        rw [this, posIn_self]
        simp only [List.getElem?_cons_zero, Option.map_some]
        rw [List.getElem?_set_self hi]
      · rw [posIn_ne ks e]
        cases hq : posIn ks i with
        | none => simp only [Option.map_none]; rw [List.getElem?_set_ne e]
        | some j => simp
    · rename_i hi
      rw [show i - hp.length + (k :: ks).length = (i - hp.length + ks.length) + 1 by simp; omega]
      simp
/-- what a call does to some of the boxes it does to all of them: the others stay -/
theorem sub_sound {P : Program} {G : Nat → List PV} {C : Orc} {g : Nat} {B : Nat → Prop} {H : GH} {ρ : RM} {w : World} {hp hpn : List Box} {ids : List Nat} {vs : Array Value} {as : List PV} {r : PV} (hC : OrcOk P G C) (h : psubI C g as hp ids = some (r, hpn)) (hw : WR B H ρ w hp) (hq : SQ ρ hp) (hg : GRel H G) (ha : Args H ρ vs as) :
    (∃ fn, P.funcs[g]? = some fn ∧ fn.body.isNone = false ∧ (fn.name == "runtime.NumGoroutine") = false) ∧ Calls P g vs w fun e w' => ∃ z H' ρ', e = .returned z ∧ Step B H ρ w H' ρ' w' ∧ WR B H' ρ' w' hpn ∧ SQ ρ' hpn ∧ Rel H' ρ' z r := by
  unfold psubI at h
  split at h
  case h_2 => cases h
  rename_i hids
  simp only [Bool.and_eq_true, List.all_eq_true] at hids
  have hn : ids.Nodup := nodB_nodup hids.1
  have hr : ∀ k ∈ ids, k < hp.length := fun k hk => by have := hids.2 k hk; simp [Nat.blt] at this; omega
  split at h
  case h_2 => cases h
  rename_i r0 hp' hsh
  split at h
  case h_2 => cases h
  rename_i hle0
  have hle : ids.length ≤ hp'.length := Nat.le_of_ble_eq_true hle0
  cases h
  obtain ⟨hfn, k⟩ := hC.shr _ _ _ _ _ hsh
  refine ⟨hfn, ?_⟩
  let n := hp.length
  let ρs : RM := fun j => match ids[j]? with | some i => ρ i | none => none
  let Ps : Nat → Prop := fun b => ∃ i bx c, i ∈ ids ∧ hp[i]? = some bx ∧ bx.st ≠ 2 ∧ ρ i = some (b, c)
  let Bs : Nat → Prop := fun b => b < w.heap.size ∧ ¬ Ps b
  have hm : ∀ i j, posIn ids i = some j → ρs j = ρ i := fun i j hj => by show (match ids[j]? with | some i => ρ i | none => none) = _; rw [posIn_some hj]
  have hpk : ∀ (j : Nat) bx, (pick hp ids)[j]? = some bx → ∃ i b0, ids[j]? = some i ∧ hp[i]? = some b0 ∧ bx = renB (posIn ids) b0 := fun j bx hj => by
    unfold pick at hj
    rw [List.getElem?_map] at hj
    obtain ⟨i, hi, rfl⟩ := Option.map_eq_some_iff.1 hj
    have hl := hr i (List.mem_of_getElem? hi)
    refine ⟨i, hp[i], hi, List.getElem?_eq_getElem hl, ?_⟩
    rw [List.getElem?_eq_getElem hl]
  have hs0 : ∀ (j i : Nat), ids[j]? = some i → ρs j = ρ i := fun j i hj => by show (match ids[j]? with | some i => ρ i | none => none) = _; rw [hj]
  have hw0 : WR Bs H ρs w (pick hp ids) := by
    refine ⟨hw.sub, fun b hb => hb.1, fun j bx b cap a1 a2 a3 => ?_, fun j j' bx bx' b c c' a1 a2 a3 a4 a5 a6 => ?_⟩
    · obtain ⟨i, b0, e1, e2, rfl⟩ := hpk j bx a1
      rw [hs0 j i e1] at a3
      refine ⟨fun hb => hb.2 ⟨i, b0, cap, List.mem_of_getElem? e1, e2, a2, a3⟩, ?_⟩
      obtain ⟨_, arr, T, q1, q2, q3, q4, q5, q6⟩ := hw.box i b0 b cap e2 a2 a3
      refine ⟨arr, T, q1, q2, by simpa [renB] using q3, fun q v c hv hc => ?_, q5, fun e => ?_⟩
      · simp only [renB, List.getElem?_map] at hc
        obtain ⟨c0, hc0, rfl⟩ := Option.map_eq_some_iff.1 hc
        exact ren_rel hm _ _ _ (q4 q v c0 hv hc0)
      · obtain ⟨m1, m2⟩ := q6 e
        refine ⟨fun o ho => m1 o (by simpa [renB] using ho), fun q c hc => ?_⟩
        simp only [renB, List.getElem?_map] at hc
        obtain ⟨c0, hc0, rfl⟩ := Option.map_eq_some_iff.1 hc
        obtain ⟨v, l1, l2, l3⟩ := m2 q c0 hc0
        exact ⟨v, l1, l2, ren_rel (ρ := RM.nil) (ρ' := RM.nil) (fun _ _ _ => rfl) _ _ _ l3⟩
    · obtain ⟨i, b0, e1, e2, rfl⟩ := hpk j bx a1
      obtain ⟨i', b0', e1', e2', rfl⟩ := hpk j' bx' a2
      rw [hs0 j i e1] at a5
      rw [hs0 j' i' e1'] at a6
      have := hw.inj i i' b0 b0' b c c' e2 e2' a3 a4 a5 a6
      subst this
      exact (List.getElem?_inj (List.getElem?_eq_some_iff.1 e1).1 hn).1 (e1.trans e1'.symm)
  have hq0 : SQ ρs (pick hp ids) := by
    refine ⟨fun j bx a1 a2 => ?_, fun j hj => ?_⟩
    · obtain ⟨i, b0, e1, e2, rfl⟩ := hpk j bx a1
      obtain ⟨x, hx⟩ := hq.tot i b0 e2 a2
      exact ⟨x, (hs0 j i e1).trans hx⟩
    · have : ids[j]? = none := List.getElem?_eq_none (by simpa [pick] using hj)
      show (match ids[j]? with | some i => ρ i | none => none) = none
      rw [this]
  have ha0 : Args H ρs vs (as.map (ren (posIn ids) deep)) := ⟨by rw [List.length_map]; exact ha.len, fun i v c hv hc => by
    rw [List.getElem?_map] at hc
    obtain ⟨c0, hc0, rfl⟩ := Option.map_eq_some_iff.1 hc
    exact ren_rel hm _ _ _ (ha.rel i v c0 hv hc0)⟩
  refine (k Bs H ρs w vs hw0 hq0 hg ha0).mono fun e w' he => ?_
  obtain ⟨v, H', ρ1, rfl, hs, hw1, hq1, hv⟩ := he
  let ρ' : RM := fun i => if i < n then (match posIn ids i with | some j => ρ1 j | none => ρ i) else ρ1 (i - n + ids.length)
  have hin : ∀ (j i : Nat), ids[j]? = some i → ρ' i = ρ1 j := fun j i hj => by
    show (if i < n then (match posIn ids i with | some j => ρ1 j | none => ρ i) else ρ1 (i - n + ids.length)) = ρ1 j
    rw [if_pos (hr i (List.mem_of_getElem? hj)), posIn_of hn hj]
  have hnew : ∀ j, ids.length ≤ j → ρ' (n + (j - ids.length)) = ρ1 j := fun j hj => by
    show (if n + (j - ids.length) < n then (match posIn ids (n + (j - ids.length)) with | some j => ρ1 j | none => ρ (n + (j - ids.length))) else ρ1 (n + (j - ids.length) - n + ids.length)) = ρ1 j
    rw [if_neg (by omega), show n + (j - ids.length) - n + ids.length = j by omega]
  have hold : ∀ i, i < n → posIn ids i = none → ρ' i = ρ i := fun i hi h0 => by
    show (if i < n then (match posIn ids i with | some j => ρ1 j | none => ρ i) else ρ1 (i - n + ids.length)) = ρ i
    rw [if_pos hi, h0]
  have hm' : ∀ j i, backM ids n j = some i → ρ' i = ρ1 j := fun j i hj => by
    unfold backM at hj
    split at hj
    · rename_i i' e; cases hj; exact hin j _ e
    · rename_i e; cases hj; exact hnew j (by simpa using e)
  have hρ : ρ.le ρ' := fun i x hx => by
    have hi : i < n := by
      rcases Nat.lt_or_ge i n with hl | hl
      · exact hl
      · rw [hq.fresh i hl] at hx; cases hx
    cases hpos : posIn ids i with
    | none => rw [hold i hi hpos]; exact hx
    | some j => rw [hin j i (posIn_some hpos)]; exact hs.hρ j x ((hm i j hpos).trans hx)
  have hB : ∀ b, B b → Bs b := fun b hb => ⟨hw.base b hb, fun ⟨i, bx, c, h1, h2, h3, h4⟩ => (hw.box i bx b c h2 h3 h4).1 hb⟩
  -- what the boxes of the result are
  have hget : ∀ (i : Nat) bx, (setAll (backM ids n) hp ids hp')[i]? = some bx → (∃ j b0, hp'[j]? = some b0 ∧ bx = renB (backM ids n) b0 ∧ ρ' i = ρ1 j ∧ backM ids n j = some i) ∨ (i < n ∧ posIn ids i = none ∧ hp[i]? = some bx ∧ ρ' i = ρ i) := fun i bx hi => by
    rw [setAll_get hn hr hle] at hi
    split at hi
    · rename_i hlt
      split at hi
      · rename_i j hj
        obtain ⟨b0, h0, rfl⟩ := Option.map_eq_some_iff.1 hi
        have e := posIn_some hj
        exact .inl ⟨j, b0, h0, rfl, hin j i e, by unfold backM; rw [e]⟩
      · rename_i hj
        exact .inr ⟨hlt, hj, hi, hold i hlt hj⟩
    · rename_i hge
      obtain ⟨b0, h0, rfl⟩ := Option.map_eq_some_iff.1 hi
      have e : ids[i - hp.length + ids.length]? = none := List.getElem?_eq_none (by omega)
      have e2 : backM ids n (i - hp.length + ids.length) = some i := by
        unfold backM
        rw [e]
        show some (hp.length + (i - hp.length + ids.length - ids.length)) = some i
        rw [show hp.length + (i - hp.length + ids.length - ids.length) = i by omega]
      exact .inl ⟨_, b0, h0, rfl, hm' _ _ e2, e2⟩
  have hfar : ∀ i bx b c, posIn ids i = none → hp[i]? = some bx → bx.st ≠ 2 → ρ i = some (b, c) → Bs b := fun i bx b c h0 h1 h2 h3 => by
    refine ⟨(hw.box i bx b c h1 h2 h3).2.lt, fun ⟨i', bx', c', k1, k2, k3, k4⟩ => ?_⟩
    have := hw.inj i i' bx bx' b c c' h1 k2 h2 k3 h3 k4
    subst this
    exact posIn_none h0 k1
  refine ⟨v, H', ρ', rfl, ⟨hs.hH, hρ, fun b o v hb hv => hs.old b o v (hB b hb) hv, hs.bel.mono hB⟩, ⟨hw1.sub, fun b hb => Nat.lt_of_lt_of_le (hw.base b hb) hs.bel.size, fun i bx b cap a1 a2 a3 => ?_, fun i i' bx bx' b c c' a1 a2 a3 a4 a5 a6 => ?_⟩, ⟨fun i bx a1 a2 => ?_, fun i hi => ?_⟩, ren_rel hm' _ _ _ hv⟩
  · rcases hget i bx a1 with ⟨j, b0, h0, rfl, h1, _⟩ | ⟨hi, h0, h1, h2⟩
    · rw [h1] at a3
      obtain ⟨hb1, arr, T, q1, q2, q3, q4, q5, q6⟩ := hw1.box _ _ _ _ h0 a2 a3
      refine ⟨fun hb => hb1 (hB b hb), arr, T, q1, q2, by simpa [renB] using q3, fun q v c hv hc => ?_, q5, fun e => ?_⟩
      · simp only [renB, List.getElem?_map] at hc
        obtain ⟨c0, hc0, rfl⟩ := Option.map_eq_some_iff.1 hc
        exact ren_rel hm' _ _ _ (q4 q v c0 hv hc0)
      · obtain ⟨m1, m2⟩ := q6 e
        refine ⟨fun o ho => m1 o (by simpa [renB] using ho), fun q c hc => ?_⟩
        simp only [renB, List.getElem?_map] at hc
        obtain ⟨c0, hc0, rfl⟩ := Option.map_eq_some_iff.1 hc
        obtain ⟨v, l1, l2, l3⟩ := m2 q c0 hc0
        exact ⟨v, l1, l2, ren_rel (ρ := RM.nil) (ρ' := RM.nil) (fun _ _ _ => rfl) _ _ _ l3⟩
    · rw [h2] at a3
      have hbs := hfar i bx b cap h0 h1 a2 a3
      obtain ⟨hb1, hbx⟩ := hw.box i bx b cap h1 a2 a3
      exact ⟨hb1, hbx.keep (hs.bel.block b hbs) hs.hH hρ (fun o v => hs.old b o v hbs)⟩
  · rcases hget i bx a1 with ⟨j, b0, h0, rfl, h1, g1⟩ | ⟨hi, h0, h1, h2⟩
    · rw [h1] at a5
      rcases hget i' bx' a2 with ⟨j', b0', h0', rfl, h1', g1'⟩ | ⟨hi', h0', h1', h2'⟩
      · rw [h1'] at a6
        have := hw1.inj _ _ _ _ _ _ _ h0 h0' a3 a4 a5 a6
        subst this
        exact Option.some.inj (g1.symm.trans g1')
      · rw [h2'] at a6
        exact absurd (hfar i' bx' b c' h0' h1' a4 a6) (hw1.box _ _ _ _ h0 a3 a5).1
    · rw [h2] at a5
      rcases hget i' bx' a2 with ⟨j', b0', h0', rfl, h1', g1'⟩ | ⟨hi', h0', h1', h2'⟩
      · rw [h1'] at a6
        exact absurd (hfar i bx b c h0 h1 a3 a5) (hw1.box _ _ _ _ h0' a4 a6).1
      · rw [h2'] at a6
        exact hw.inj _ _ _ _ _ _ _ h1 h1' a3 a4 a5 a6
  · rcases hget i bx a1 with ⟨j, b0, h0, rfl, h1, _⟩ | ⟨hi, h0, h1, h2⟩
    · obtain ⟨x, hx⟩ := hq1.tot j b0 h0 a2
      exact ⟨x, h1.trans hx⟩
    · obtain ⟨x, hx⟩ := hq.tot i bx h1 a2
      exact ⟨x, h2.trans hx⟩
  · have hl := setAll_length (m := backM ids n) (hp := hp) hle
    have hi' : hp.length + (hp'.length - ids.length) ≤ i := by rw [← hl]; exact hi
    show (if i < n then (match posIn ids i with | some j => ρ1 j | none => ρ i) else ρ1 (i - n + ids.length)) = none
    rw [if_neg (by show ¬ i < hp.length; omega)]
    exact hq1.fresh _ (by show hp'.length ≤ i - hp.length + ids.length; omega)
theorem pop_sound {P : Program} {G : Nat → List PV} {C : Orc} {B : Nat → Prop} {H : GH} {ρ : RM} {w : World} {a : Act} {pv : Operand → PV} {hp0 : List Box} {o : Oper} {v : PV} {hp' : List Box} {next : Act → World → Prop} {Q : Exit → Act → World → Prop} (hC : OrcOk P G C) (hwr : WR B H ρ w hp0) (hsq : SQ ρ hp0) (hgr : GRel H G) (hev : ∀ x ∈ o.op.operands, Rel H ρ (a.eval x) (pv x)) (hp : pop P C pv hp0 o.op = some (v, hp'))
    (hK : ∀ z w' H' ρ', Step B H ρ w H' ρ' w' → WR B H' ρ' w' hp' → SQ ρ' hp' → Rel H' ρ' z v → next (a.put o.dst z) w') : o.wp P a w next Q := by
  obtain ⟨dst, op, ty, pos, aft, gd⟩ := o
  simp only at hp hev
  unfold pop at hp
  split at hp
  · rename_i T x
    obtain ⟨r, h1, e⟩ := Option.map_eq_some_iff.1 hp
    cases e
    obtain ⟨z, h2, h3⟩ := pload_sound hwr h1 (hev x (by simp [Op.operands]))
    exact upon_ok (by simp [execOp, Sem.run_bind, h2]) (hK z w H ρ (.refl _ _ _ _) hwr hsq h3)
  · rename_i T p x
    obtain ⟨r, h1, e⟩ := Option.map_eq_some_iff.1 hp
    cases e
    obtain ⟨w', h2, h3, h4⟩ := pstore_sound hwr h1 (hev p (by simp [Op.operands])) (hev x (by simp [Op.operands]))
    refine upon_skip (by simp [execOp, Sem.run_bind, h2]) (hK undef w' H ρ h4 h3 ?_ undef_rel)
    unfold pstore at h1
    split at h1
    · split at h1
      · rename_i bx hbx
        split at h1
        · rename_i hc
          cases h1
          exact hsq.set _ _ fun b hb => by rw [hbx] at hb; cases hb; show bx.st ≤ 0; omega
        · cases h1
      · cases h1
    · cases h1
  · obtain ⟨r, h1, e⟩ := Option.map_eq_some_iff.1 hp
    cases e
    obtain ⟨z, w', k1, k2, k3, k4⟩ := pemp_sound (o := ⟨dst, _, ty, pos, aft, gd⟩) (ev := a.eval) hwr rfl h1
    exact upon_ok k1 (hK z w' H ρ k2 k3 hsq k4)
  · rename_i T x
    split at hp
    · obtain ⟨r, h1, e⟩ := Option.map_eq_some_iff.1 hp
      cases e
      obtain ⟨z, w', H', k1, k2, k3, k4⟩ := pfrzB_sound (o := ⟨dst, _, ty, pos, aft, gd⟩) (ev := a.eval) hwr rfl h1 (hev x (by simp [Op.operands]))
      exact upon_ok k1 (hK z w' H' ρ k2 k3 hsq k4)
    · exact new_sound hwr hsq hev hp hK
  · exact new_sound hwr hsq hev hp hK
  · exact new_sound hwr hsq hev hp hK
  · exact new_sound hwr hsq hev hp hK
  · rename_i args ats
    split at hp
    · rename_i T X s' t' hT hX hargs
      have e : args = #[s', t'] := by rw [← Array.toArray_toList (xs := args), hargs]
      subst e
      have hold : pappend P hp0 hp0.length T X (pv s') (pv t') = some (v, hp') → (⟨dst, .call { callee := .builtin .append, args := #[s', t'], argTypes := ats }, ty, pos, aft, gd⟩ : Oper).wp P a w next Q := fun hp => by
        obtain ⟨z, w', ρ', h1, h2, h3, h4, h5⟩ := pappend_sound (ty := ty) hwr hsq hT hX (hev s' (by simp [Op.operands, Call.operands])) (hev t' (by simp [Op.operands, Call.operands])) hp
        exact upon_ok (by simp [execOp, resolve, invoke, builtin, Sem.run_bind, h1]) (hK z w' H ρ' h3 h2 h5 h4)
      unfold pappM at hp
      split at hp
      · exact hold hp
      · split at hp
        · exact hold hp
        · obtain ⟨z, w', H', ρ', h1, h2, h3, h4, h5⟩ := pappO_sound (ty := ty) hwr hsq hT hX (hev s' (by simp [Op.operands, Call.operands])) (hev t' (by simp [Op.operands, Call.operands])) hp
          exact upon_ok (by simp [execOp, resolve, invoke, builtin, Sem.run_bind, h1]) (hK z w' H' ρ' h3 h2 h5 h4)
    · cases hp
  · rename_i f args ats
    unfold pcallv at hp
    split at hp
    · rename_i g caps hf
      have hx := hev f (by simp [Op.operands, Call.operands])
      rw [hf] at hx
      generalize hu : a.eval f = u at hx
      cases hx with | fn _ vs _ hl hr =>
      have ha := args_rel (xs := args) (fun x hx => hev x (by simp only [Op.operands, Call.operands]; exact Array.mem_append.2 (.inr hx))) hl hr
      split at hp
      · split at hp
        · rename_i hnb
          obtain ⟨⟨r, more⟩, hfr, e⟩ := Option.map_eq_some_iff.1 hp
          cases e
          obtain ⟨r0, bxs, h0, rfl, rfl⟩ := pfresh_some hfr
          obtain ⟨⟨fn, k1, k2, k3⟩, k4⟩ := hC.shr _ _ _ _ _ h0
          have hq := hsq.fresh
          refine upon_enter (call_run hu k1 k2 k3) (fresh_sound (n := hp0.length) (hpn := hp0 ++ bxs.map (shiftB hp0.length bxs.length)) k4 (hwr.ext hq) hgr ⟨ha.len, fun i v c hv hc => noBox_nil deep v c (List.all_eq_true.1 hnb c (List.mem_of_getElem? hc)) (ha.rel i v c hv hc)⟩ (fun j bx hj => by rw [List.getElem?_append_right (by omega), Nat.add_sub_cancel_left, List.getElem?_map, hj]; rfl) (fun j _ => hq _ (by omega))) fun e w' he => ?_
          obtain ⟨z, H', ρ', rfl, m1, m2, m3, m4, m5⟩ := he
          refine ⟨z, rfl, hK z w' H' ρ' m1 m2 ⟨fun id bx h1 h2 => ?_, fun id hid => ?_⟩ m5⟩
          · by_cases hl : id < hp0.length
            · rw [List.getElem?_append_left hl] at h1
              obtain ⟨x, hx⟩ := hsq.tot id bx h1 h2
              exact ⟨x, m1.hρ _ _ hx⟩
            · rw [List.getElem?_append_right (by omega), List.getElem?_map] at h1
              obtain ⟨b0, hb0, rfl⟩ := Option.map_eq_some_iff.1 h1
              have := m4 _ _ hb0 h2
              rwa [show hp0.length + (id - hp0.length) = id by omega] at this
          · simp only [List.length_append, List.length_map] at hid
            rw [m3 id (by omega)]
            exact hq id (by omega)
        obtain ⟨⟨fn, k1, k2, k3⟩, k4⟩ := sub_sound (vs := args.map a.eval ++ vs) hC hp hwr hsq hgr ha
        refine upon_enter (call_run hu k1 k2 k3) k4 fun e w' he => ?_
        obtain ⟨z, H', ρ', rfl, m1, m2, m3, m4⟩ := he
        exact ⟨z, rfl, hK z w' H' ρ' m1 m2 m3 m4⟩
      · split at hp
        · rename_i hnb
          obtain ⟨r, hiso, e⟩ := Option.map_eq_some_iff.1 hp
          cases e
          obtain ⟨⟨fn, k1, k2, k3⟩, k4⟩ := hC.iso _ _ _ hiso
          refine upon_enter (call_run hu k1 k2 k3) (k4 w H _ hwr.sub hgr ⟨ha.len, fun i v c hv hc => noBox_nil deep v c (List.all_eq_true.1 hnb c (List.mem_of_getElem? hc)) (ha.rel i v c hv hc)⟩) fun e w' he => ?_
          obtain ⟨z, H', rfl, m1, m2, m3, m4, m5⟩ := he
          exact ⟨z, rfl, hK z w' H' ρ ⟨m2, .refl _, fun b o v hb hv => m3 b o v (hwr.base _ hb) hv, Below_bel m1 hwr.base⟩ (hwr.keep m1 m2 m3 m4) hsq m5.up⟩
        split at hp
        · rename_i as' hp1 hfz
          obtain ⟨H1, kn, l1, r1⟩ := fzL_sound (fun H hp v p p' hp' => fz_sound deep H hp v p p' hp') _ (args.map a.eval ++ vs).toList H hp0 as' hp1 hwr (by have := ha.len; simpa using this) (fun i v c hv hc => ha.rel i v c (by rw [← Array.getElem?_toList]; exact hv) hc) hfz
          have ha' : Args H1 RM.nil (args.map a.eval ++ vs) as' := ⟨by rw [l1]; exact ha.len, fun i v c hv hc => r1 i v c (by rw [Array.getElem?_toList]; exact hv) hc⟩
          split at hp
          · rename_i r hiso
            obtain ⟨⟨fn, k1, k2, k3⟩, k4⟩ := hC.iso _ _ _ hiso
            refine upon_enter (call_run hu k1 k2 k3) (k4 w H1 _ kn.wr.sub (hgr.mono kn.hH) ha') fun e w' he => ?_
            obtain ⟨z, H', rfl, m1, m2, m3, m4, m5⟩ := he
            refine ⟨z, rfl, ?_⟩
            split at hp
            · rename_i hfl
              cases hp
              refine hK z w' H ρ ⟨.refl _, .refl _, fun _ _ _ _ h => h, Below_bel m1 hwr.base⟩ (hwr.keep m1 (.refl _) (fun _ _ _ _ h => h) (sub_below hwr.sub m1)) hsq (m5.flat (flatB_flat _ _ hfl))
            · cases hp
              refine hK z w' H' ρ ⟨kn.hH.trans m2, .refl _, fun b o v hb hv => kn.old b o v hb (m3 b o v (hwr.base _ hb) hv), Below_bel m1 hwr.base⟩ (kn.wr.keep m1 m2 m3 m4) (hsq.kn kn) m5.up
          · cases hp
        · cases hp
    · cases hp
  · rename_i s t x
    split at hp
    · obtain ⟨r, h1, e⟩ := Option.map_eq_some_iff.1 hp
      cases e
      obtain ⟨z, w', H', k1, k2, k3, k4⟩ := pconvM_sound hwr hwr h1 (hev x (by simp [Op.operands]))
      exact upon_ok (by simp [execOp, Sem.run_bind, k1]) (hK z w' H' ρ k2 k3 hsq k4)
    · obtain ⟨r, h1, e⟩ := Option.map_eq_some_iff.1 hp
      cases e
      obtain ⟨z, h2, h3⟩ := popA_sound (o := ⟨dst, _, ty, pos, aft, gd⟩) (w := w) h1 hev
      exact upon_ok h2 (hK z w H ρ (.refl _ _ _ _) hwr hsq h3)
  · obtain ⟨r, h1, e⟩ := Option.map_eq_some_iff.1 hp
    cases e
    obtain ⟨z, h2, h3⟩ := popA_sound (o := ⟨dst, _, ty, pos, aft, gd⟩) (w := w) h1 hev
    exact upon_ok h2 (hK z w H ρ (.refl _ _ _ _) hwr hsq h3)
end Go.Proofs.YtfhojpnofmlkdaaDoor.Pv
