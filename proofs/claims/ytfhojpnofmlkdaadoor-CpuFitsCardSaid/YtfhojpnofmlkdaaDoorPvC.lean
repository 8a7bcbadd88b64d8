/- Operations that touch no box: what they make of plain values; that the machine's do the same. -/
import Derived.Test.YtfhojpnofmlkdaaDoorPvA
import Derived.Laws.Cells
namespace Go.Proofs.YtfhojpnofmlkdaaDoor.Pv
open Go.RowKit
set_option linter.unusedSimpArgs false
set_option linter.unusedVariables false
set_option maxHeartbeats 1000000

def szT (P : Program) (T : TypeId) : Option Nat := (P.info? T).map (·.size)
def aggD : TypeDesc → Bool | .struct _ => true | .array _ _ => true | _ => false
def isA (P : Program) (T : TypeId) : Option Bool := (P.underlying T).map aggD
/-- a value of type T out of the first cells -/
def mk (P : Program) (T : TypeId) (cs : List PV) : Option PV :=
  match szT P T, isA P T with
  | some n, some true => if n ≤ cs.length then some (.agg (cs.take n)) else none
  | some _, some false => cs.head?
  | _, _ => none

theorem r_und {P : Program} {T : TypeId} {d : TypeDesc} {w : World} (h : P.underlying T = some d) : (underlying T).run P w = .ok d w := by
  simp [underlying, h, go_sem]
theorem r_size {P : Program} {T : TypeId} {n : Nat} {w : World} (h : szT P T = some n) : (sizeOf T).run P w = .ok n w := by
  unfold szT at h
  cases hi : P.info? T with
  | none => rw [hi] at h; cases h
  | some i => rw [hi] at h; cases h; simp [sizeOf, typeInfo, hi, go_sem]
theorem r_agg {P : Program} {T : TypeId} {b : Bool} {w : World} (h : isA P T = some b) : (isAgg T).run P w = .ok b w := by
  unfold isA at h
  cases hi : P.underlying T with
  | none => rw [hi] at h; cases h
  | some d => rw [hi] at h; cases h; cases d <;> simp [isAgg, r_und hi, aggD, go_sem]

theorem add_addr (b o n : Nat) : Addr.add ⟨b, o, none⟩ n = ⟨b, o + n, none⟩ := by unfold Addr.add; split <;> simp_all
/-- what a constant reads as -/
def ofConst : Value → PV
  | .bool b => .bool b
  | .int k n => .int k n
  | .string s => .str s
  | .slice none 0 0 => .nils
  | .slice (some _) 0 0 => .emp
  | .pointer none => .nilp
  | .nilFunc => .nilfn
  | .nilIface => .nilifc
  | .tuple vs => if vs.size = 0 then .tup [] else .any
  | _ => .any
theorem ofConst_rel (H : GH) (ρ : RM) (v : Value) : Rel H ρ v (ofConst v) := by
  unfold ofConst
  split
  · exact .bool _
  · exact .int _ _
  · exact .str _
  · exact .nils
  · exact .emp _
  · exact .nilp
  · exact .nilfn
  · exact .nilifc
  · split
    · rename_i vs h
      exact .tup vs [] h (fun i v c _ hc => by simp at hc)
    · exact .any _
  · exact .any _

/-- the sum of two ints and so on -/
def pint (op : BinOp) (k : IntKind) (x y : Int) : Option PV :=
  match op with
  | .add => some (.int k (k.wrap (x + y)))
  | .sub => some (.int k (k.wrap (x - y)))
  | .mul => some (.int k (k.wrap (x * y)))
  | .quo => if y = 0 then none else some (.int k (k.wrap (x.tdiv y)))
  | .rem => if y = 0 then none else some (.int k (x.tmod y))
  | .and => some (.int k (k.wrap (BitVec.ofInt k.bits x &&& BitVec.ofInt k.bits y).toNat))
  | .or => some (.int k (k.wrap (BitVec.ofInt k.bits x ||| BitVec.ofInt k.bits y).toNat))
  | .xor => some (.int k (k.wrap (BitVec.ofInt k.bits x ^^^ BitVec.ofInt k.bits y).toNat))
  | .andNot => some (.int k (k.wrap (BitVec.ofInt k.bits x &&& ~~~ BitVec.ofInt k.bits y).toNat))
  | .eql => some (.bool (x == y))
  | .neq => some (.bool (x != y))
  | .lss => some (.bool (decide (x < y)))
  | .leq => some (.bool (decide (x ≤ y)))
  | .gtr => some (.bool (decide (x > y)))
  | .geq => some (.bool (decide (x ≥ y)))
  | _ => none
def pshift (op : BinOp) (k : IntKind) (x y : Int) : Option PV :=
  if y < 0 then none else
  match op with
  | .shl => some (.int k (k.wrap (x * 2 ^ (min y.toNat k.bits))))
  | .shr => some (.int k (x.fdiv (2 ^ (min y.toNat k.bits))))
  | _ => none
def pstr (op : BinOp) (x y : ByteArray) : Option PV :=
  match op with
  | .add => if x.size + y.size ≤ 9223372036854775807 then some (.str (x ++ y)) else none
  | .eql => some (.bool (x.toList == y.toList))
  | .neq => some (.bool (!(x.toList == y.toList)))
  | .lss => some (.bool (Op.bytesLess x.toList y.toList))
  | .leq => some (.bool (Op.bytesLess x.toList y.toList || x.toList == y.toList))
  | .gtr => some (.bool (!(Op.bytesLess x.toList y.toList || x.toList == y.toList)))
  | .geq => some (.bool (!(Op.bytesLess x.toList y.toList)))
  | _ => none
/-- are two values of a basic type equal? -/
def eqB (d : TypeDesc) (x y : PV) : Option Bool :=
  match d, x, y with
  | .bool, .bool a, .bool b => some (a == b)
  | .int _, .int k a, .int k' b => if k = k' then some (a == b) else none
  | .string, .str a, .str b => some (a == b)
  | _, _, _ => none
/-- are two structs equal whose fields are of basic types? -/
def eqFs (P : Program) : List Field → List PV → List PV → Option Bool
  | [], _, _ => some true
  | f :: fs, xs, ys =>
    if f.name = "_" then eqFs P fs xs ys else
    match P.underlying f.type, xs[f.offset]?, ys[f.offset]? with
    | some d, some x, some y =>
      match eqB d x y, eqFs P fs xs ys with
      | some b, some b' => some (b && b')
      | _, _ => none
    | _, _, _ => none
/-- are two arrays of a basic type equal? -/
def eqAs (d : TypeDesc) : List PV → List PV → Option Bool
  | [], [] => some true
  | x :: xs, y :: ys => match eqB d x y, eqAs d xs ys with | some b, some b' => some (b && b') | _, _ => none
  | _, _ => none
/-- are two values equal? (c: one of the operands is a constant) -/
def peq (P : Program) (T : TypeId) (c : Bool) (x y : PV) : Option Bool :=
  match P.underlying T, x, y with
  | some .bool, .bool a, .bool b => some (a == b)
  | some (.pointer _), .nilp, .nilp => some true
  | some (.pointer _), .nilp, .ptr _ _ => some false
  | some (.pointer _), .nilp, .cptr _ => some false
  | some (.pointer _), .ptr _ _, .nilp => some false
  | some (.pointer _), .cptr _, .nilp => some false
  | some (.func _ _ _), .nilfn, .nilfn => some true
  | some (.func _ _ _), .nilfn, .fn _ _ => some false
  | some (.func _ _ _), .fn _ _, .nilfn => some false
  | some (.slice _), .nils, .nils => some true
  | some (.slice _), .lst _ (_ :: _), .nils => some false
  | some (.slice _), .nils, .lst _ (_ :: _) => some false
  | some (.slice _), .sl _ _ _ _, .nils => some false
  | some (.slice _), .nils, .sl _ _ _ _ => some false
  | some (.interface _), .nilifc, .nilifc => if c then some true else none
  | some (.interface _), .nilifc, .ifc _ _ => some false
  | some (.interface _), .ifc _ _, .nilifc => some false
  | some (.struct fs), .agg xs, .agg ys => if P.stoodInHeld T || P.eqGuardType P.depth T then none else eqFs P fs.toList xs ys
  | some (.array k E), .agg xs, .agg ys => if P.eqGuardType P.depth T then none else match P.underlying E, szT P E, decide (xs.length = k) with | some d, some 1, true => eqAs d xs ys | _, _, _ => none
  | _, _, _ => none
def pbin (P : Program) (op : BinOp) (T : TypeId) (c : Bool) (x y : PV) : Option PV :=
  match op, x, y with
  | .shl, .int k a, .int _ b => pshift .shl k a b
  | .shr, .int k a, .int _ b => pshift .shr k a b
  | op, .int k a, .int k' b => if k = k' then pint op k a b else none
  | op, .str a, .str b => pstr op a b
  | .eql, x, y => (peq P T c x y).map .bool
  | .neq, x, y => (peq P T c x y).map fun b => .bool (!b)
  | _, _, _ => none

theorem pint_sound {P : Program} {T : TypeId} {op : BinOp} {k : IntKind} {x y : Int} {p : PV} {w : World} (h : pint op k x y = some p) (h1 : op ≠ .shl) (h2 : op ≠ .shr) :
    ∃ v, (binOp op T (.int k x) (.int k y)).run P w = .ok v w ∧ ∀ H ρ, Rel H ρ v p := by
  cases op <;> simp only [pint] at h
  case add => cases h; exact ⟨_, by simp [binOp, Op.intArith, go_sem]  , fun _ _ => .int _ _⟩
  case sub => cases h; exact ⟨_, by simp [binOp, Op.intArith, go_sem]  , fun _ _ => .int _ _⟩
  case mul => cases h; exact ⟨_, by simp [binOp, Op.intArith, go_sem]  , fun _ _ => .int _ _⟩
  case quo => split at h <;> cases h; exact ⟨_, by simp [binOp, Op.intDiv, go_sem, *]  , fun _ _ => .int _ _⟩
  case rem => split at h <;> cases h; exact ⟨_, by simp [binOp, Op.intDiv, go_sem, *]  , fun _ _ => .int _ _⟩
  case and => cases h; exact ⟨_, by simp [binOp, Op.intBits, go_sem]  , fun _ _ => .int _ _⟩
  case or => cases h; exact ⟨_, by simp [binOp, Op.intBits, go_sem]  , fun _ _ => .int _ _⟩
  case xor => cases h; exact ⟨_, by simp [binOp, Op.intBits, go_sem]  , fun _ _ => .int _ _⟩
  case andNot => cases h; exact ⟨_, by simp [binOp, Op.intBits, go_sem]  , fun _ _ => .int _ _⟩
  case shl => exact absurd rfl h1
  case shr => exact absurd rfl h2
  case eql => cases h; exact ⟨_, by simp [binOp, Op.intCmp, go_sem]  , fun _ _ => .bool _⟩
  case neq => cases h; exact ⟨_, by simp [binOp, Op.intCmp, go_sem]  , fun _ _ => .bool _⟩
  case lss => cases h; exact ⟨_, by simp [binOp, Op.intCmp, go_sem]  , fun _ _ => .bool _⟩
  case leq => cases h; exact ⟨_, by simp [binOp, Op.intCmp, go_sem]  , fun _ _ => .bool _⟩
  case gtr => cases h; exact ⟨_, by simp [binOp, Op.intCmp, go_sem]  , fun _ _ => .bool _⟩
  case geq => cases h; exact ⟨_, by simp [binOp, Op.intCmp, go_sem]  , fun _ _ => .bool _⟩
theorem pstr_sound {P : Program} {T : TypeId} {op : BinOp} {x y : ByteArray} {p : PV} {w : World} (h : pstr op x y = some p) :
    ∃ v, (binOp op T (.string x) (.string y)).run P w = .ok v w ∧ ∀ H ρ, Rel H ρ v p := by
  cases op <;> simp only [pstr] at h
  case add =>
    split at h <;> cases h
    rename_i hs
    exact ⟨.string (x ++ y), by
      simp only [binOp, Op.stringOp]
      rw [if_neg (by simp [IntKind.max, IntKind.signed, IntKind.bits]; omega)]
      rfl, fun _ _ => .str _⟩
  case eql => cases h; exact ⟨_, by simp [binOp, Op.stringOp, go_sem]  , fun _ _ => .bool _⟩
  case neq => cases h; exact ⟨_, by simp [binOp, Op.stringOp, go_sem]  , fun _ _ => .bool _⟩
  case lss => cases h; exact ⟨_, by simp [binOp, Op.stringOp, go_sem]  , fun _ _ => .bool _⟩
  case leq => cases h; exact ⟨_, by simp [binOp, Op.stringOp, go_sem]  , fun _ _ => .bool _⟩
  case gtr => cases h; exact ⟨_, by simp [binOp, Op.stringOp, go_sem]  , fun _ _ => .bool _⟩
  case geq => cases h; exact ⟨_, by simp [binOp, Op.stringOp, go_sem]  , fun _ _ => .bool _⟩
  all_goals cases h
theorem pshift_sound {P : Program} {T : TypeId} {op : BinOp} {k k' : IntKind} {x y : Int} {p : PV} {w : World} (h : pshift op k x y = some p) :
    ∃ v, (binOp op T (.int k x) (.int k' y)).run P w = .ok v w ∧ ∀ H ρ, Rel H ρ v p := by
  unfold pshift at h
  split at h
  · cases h
  · cases op <;> simp only at h
    case shl => cases h; exact ⟨_, by simp [binOp, Op.shift, go_sem, *]  , fun _ _ => .int _ _⟩
    case shr => cases h; exact ⟨_, by simp [binOp, Op.shift, go_sem, *]  , fun _ _ => .int _ _⟩
    all_goals cases h

theorem part_run {P : Program} {T : TypeId} {cs : Array Value} {off : Nat} {v : Value} {w : World} (h : isA P T = some false) (hv : cs[off]? = some v) : (part T cs off).run P w = .ok v w := by
  simp [part, r_agg h, hv, go_sem]
theorem eqB_sound {P : Program} {T : TypeId} {d : TypeDesc} {x y : PV} {u v : Value} {b : Bool} {n : Nat} {H : GH} {ρ : RM} {w : World} (hd : P.underlying T = some d) (h : eqB d x y = some b) (hx : Rel H ρ u x) (hy : Rel H ρ v y) :
    (Op.equalIn (n + 1) T u v).run P w = .ok b w := by
  unfold eqB at h
  split at h
  · cases hx; cases hy; cases h; simp [Op.equalIn, r_und hd, go_sem]
  · split at h
    · rename_i e; subst e; cases hx; cases hy; cases h; simp [Op.equalIn, r_und hd, go_sem]
    · cases h
  · cases hx; cases hy; cases h; simp [Op.equalIn, r_und hd, go_sem]
  · cases h
theorem eqB_plain {d : TypeDesc} {x y : PV} {b : Bool} (h : eqB d x y = some b) : aggD d = false := by
  unfold eqB at h; split at h <;> first | rfl | cases h
theorem run_fields {P : Program} {H : GH} {ρ : RM} {n : Nat} {xs ys : List PV} {us vs : Array Value} {w : World} (hx : ∀ (i : Nat) v c, us[i]? = some v → xs[i]? = some c → Rel H ρ v c) (hy : ∀ (i : Nat) v c, vs[i]? = some v → ys[i]? = some c → Rel H ρ v c)
    (hlx : us.size = xs.length) (hly : vs.size = ys.length) {body : Field → Option Bool × PUnit → Sem (ForInStep (Option Bool × PUnit))}
    (h1 : ∀ f s, f.name = "_" → (body f s).run P w = .ok (.yield (none, ())) w)
    (h2 : ∀ f s u v e, f.name ≠ "_" → us[f.offset]? = some u → vs[f.offset]? = some v → isA P f.type = some false → (Op.equalIn (n + 1) f.type u v).run P w = .ok e w → (body f s).run P w = .ok (if e then .yield (none, ()) else .done (some false, ())) w) :
    ∀ (fs : List Field) (b : Bool), eqFs P fs xs ys = some b → (forIn fs (none, ()) body).run P w = .ok (if b then (none, ()) else (some false, ())) w := by
  intro fs
  induction fs with
  | nil => intro b h; simp only [eqFs] at h; cases h; simp [go_sem]
  | cons f fs ih =>
    intro b h
    unfold eqFs at h
    split at h
    · rename_i hn
      simp only [List.forIn_cons]
      have := ih b h
      simp [h1 f (none, ()) hn, this, go_sem]
    · rename_i hn
      split at h
      · rename_i d x y hd hxo hyo
        obtain ⟨u, hu⟩ : ∃ u, us[f.offset]? = some u := ⟨_, Array.getElem?_eq_getElem (by have := (List.getElem?_eq_some_iff.1 hxo).1; omega)⟩
        obtain ⟨v, hv⟩ : ∃ v, vs[f.offset]? = some v := ⟨_, Array.getElem?_eq_getElem (by have := (List.getElem?_eq_some_iff.1 hyo).1; omega)⟩
        have hA : ∀ b', eqB d x y = some b' → isA P f.type = some false := fun b' hb => by unfold isA; rw [hd]; simp [eqB_plain hb]
        simp only [List.forIn_cons]
        split at h
        · rename_i b1 b2 hb hb2
          cases h
          have h3 := h2 f (none, ()) u v b1 hn hu hv (hA _ hb) (eqB_sound hd hb (hx _ _ _ hu hxo) (hy _ _ _ hv hyo))
          cases b1
          · simp [h3, go_sem]
          · simp [h3, ih _ hb2, go_sem]
        · cases h
      · cases h
theorem eqFs_sound {P : Program} {H : GH} {ρ : RM} {T : TypeId} {fs : Array Field} {xs ys : List PV} {us vs : Array Value} {b : Bool} {n : Nat} {w : World} (hT : P.underlying T = some (.struct fs)) (hs : P.stoodInHeld T = false) (h : eqFs P fs.toList xs ys = some b)
    (hx : ∀ (i : Nat) v c, us[i]? = some v → xs[i]? = some c → Rel H ρ v c) (hy : ∀ (i : Nat) v c, vs[i]? = some v → ys[i]? = some c → Rel H ρ v c) (hlx : us.size = xs.length) (hly : vs.size = ys.length) :
    (Op.equalIn (n + 2) T (.agg us) (.agg vs)).run P w = .ok b w := by
  have key := fun body h1 h2 => run_fields (P := P) (n := n) (w := w) (body := body) hx hy hlx hly h1 h2 fs.toList b h
  unfold Op.equalIn
  simp [r_und hT, hs, go_sem]
  rw [← Array.forIn_toList, key _ ?_ ?_]
  · cases b <;> simp [go_sem]
  · intro f s hf
    simp [hf, go_sem]
  · intro f s u v e hf hu hv hA hE
    cases e <;> simp [hf, r_agg hA, hu, hv, hE, go_sem]

theorem run_cells {P : Program} {H : GH} {ρ : RM} {n : Nat} {d : TypeDesc} {E : TypeId} (hd : P.underlying E = some d) {us vs : Array Value} {w : World} {body : Nat → Option Bool × PUnit → Sem (ForInStep (Option Bool × PUnit))}
    (h2 : ∀ i s u v e, us[i]? = some u → vs[i]? = some v → isA P E = some false → (Op.equalIn (n + 1) E u v).run P w = .ok e w → (body i s).run P w = .ok (if e then .yield (none, ()) else .done (some false, ())) w) :
    ∀ (xs ys : List PV) (k : Nat) (b : Bool), eqAs d xs ys = some b → (∀ (i : Nat) c, xs[i]? = some c → ∃ v, us[k + i]? = some v ∧ Rel H ρ v c) → (∀ (i : Nat) c, ys[i]? = some c → ∃ v, vs[k + i]? = some v ∧ Rel H ρ v c) →
      (forIn (List.range' k xs.length) (none, ()) body).run P w = .ok (if b then (none, ()) else (some false, ())) w := by
  intro xs
  induction xs with
  | nil =>
    intro ys k b h _ _
    cases ys with
    | nil => simp only [eqAs] at h; cases h; simp [go_sem]
    | cons _ _ => simp [eqAs] at h
  | cons x xs ih =>
    intro ys k b h hx hy
    cases ys with
    | nil => simp [eqAs] at h
    | cons y ys =>
      unfold eqAs at h
      split at h
      · rename_i b1 b2 hb hb2
        cases h
        obtain ⟨u, hu, hru⟩ := hx 0 x rfl
        obtain ⟨v, hv, hrv⟩ := hy 0 y rfl
        have hA : isA P E = some false := by unfold isA; rw [hd]; simp [eqB_plain hb]
        have h3 := h2 k (none, ()) u v b1 hu hv hA (eqB_sound hd hb hru hrv)
        have ih' := ih ys (k + 1) b2 hb2 (fun i c hc => by have := hx (i + 1) c hc; rwa [show k + (i + 1) = k + 1 + i by omega] at this) (fun i c hc => by have := hy (i + 1) c hc; rwa [show k + (i + 1) = k + 1 + i by omega] at this)
        rw [List.length_cons, List.range'_succ, List.forIn_cons]
        cases b1
        · simp [h3, go_sem]
        · simp [h3, ih', go_sem]
      · cases h
theorem eqAs_sound {P : Program} {H : GH} {ρ : RM} {T E : TypeId} {k : Nat} {d : TypeDesc} {xs ys : List PV} {us vs : Array Value} {b : Bool} {n : Nat} {w : World} (hT : P.underlying T = some (.array k E)) (hd : P.underlying E = some d) (hz : szT P E = some 1) (h : eqAs d xs ys = some b) (hk : xs.length = k)
    (hx : ∀ (i : Nat) v c, us[i]? = some v → xs[i]? = some c → Rel H ρ v c) (hy : ∀ (i : Nat) v c, vs[i]? = some v → ys[i]? = some c → Rel H ρ v c) (hlx : us.size = xs.length) (hly : vs.size = ys.length) :
    (Op.equalIn (n + 2) T (.agg us) (.agg vs)).run P w = .ok b w := by
  have ex : ∀ {us : Array Value} {xs : List PV}, us.size = xs.length → (∀ (i : Nat) v c, us[i]? = some v → xs[i]? = some c → Rel H ρ v c) → ∀ (i : Nat) c, xs[i]? = some c → ∃ v, us[0 + i]? = some v ∧ Rel H ρ v c := fun hl hr i c hc => by
    have hi := (List.getElem?_eq_some_iff.1 hc).1
    rw [Nat.zero_add]
    exact ⟨_, Array.getElem?_eq_getElem (by omega), hr i _ c (Array.getElem?_eq_getElem (by omega)) hc⟩
  have key := fun body h2 => run_cells (P := P) (H := H) (ρ := ρ) (n := n) (w := w) (us := us) (vs := vs) (body := body) hd h2 xs ys 0 b h (ex hlx hx) (ex hly hy)
  unfold Op.equalIn
  simp [r_und hT, r_size hz, go_sem]
  rw [← hk, key _ ?_]
  · cases b <;> simp [go_sem]
  · intro i s u v e hu hv hA hE
    cases e <;> simp [r_agg hA, hu, hv, hE, go_sem]

def isC : Operand → Bool | .const _ => true | _ => false
theorem peq_sound {c : Bool} {P : Program} {T : TypeId} {x y : Operand} {p q : PV} {u v : Value} {b : Bool} {H : GH} {ρ : RM} {w : World} (h : peq P T c p q = some b) (hc : c = (isC x || isC y)) (hx : Rel H ρ u p) (hy : Rel H ρ v q) (op : BinOp) (ho : op = .eql ∨ op = .neq) :
    (eqGuard op T x y u v).run P w = .ok () w ∧ (Op.equal T u v).run P w = .ok b w := by
  have g : ∀ (op : BinOp), (op = .eql ∨ op = .neq) → (!(op matches .eql | .neq)) = false := fun op ho => by rcases ho with rfl | rfl <;> rfl
  unfold Op.equal
  obtain ⟨m, hm⟩ : ∃ m, Op.maxDepth = m + 2 := ⟨9998, rfl⟩
  rw [hm]; clear hm
  unfold peq at h
  split at h
  · rename_i hT; cases hx; cases hy; cases h
    refine ⟨by rcases ho with rfl | rfl <;> simp [eqGuard, go_sem], ?_⟩
    simp [Op.equalIn, r_und hT, go_sem]
  · rename_i hT; cases hx; cases hy; cases h
    refine ⟨by rcases ho with rfl | rfl <;> simp [eqGuard, go_sem], ?_⟩
    simp [Op.equalIn, r_und hT, go_sem]
  · rename_i hT; cases hx; cases hy; cases h
    refine ⟨by rcases ho with rfl | rfl <;> simp [eqGuard, go_sem], ?_⟩
    simp [Op.equalIn, r_und hT, go_sem]
  · rename_i hT; cases hx; cases hy; cases h
    refine ⟨by rcases ho with rfl | rfl <;> simp [eqGuard, go_sem], ?_⟩
    simp [Op.equalIn, r_und hT, go_sem]
  · rename_i hT; cases hx; cases hy; cases h
    refine ⟨by rcases ho with rfl | rfl <;> simp [eqGuard, go_sem], ?_⟩
    simp [Op.equalIn, r_und hT, go_sem]
  · rename_i hT; cases hx; cases hy; cases h
    refine ⟨by rcases ho with rfl | rfl <;> simp [eqGuard, go_sem], ?_⟩
    simp [Op.equalIn, r_und hT, go_sem]
  · rename_i hT; cases hx; cases hy; cases h
    refine ⟨by rcases ho with rfl | rfl <;> simp [eqGuard, go_sem], ?_⟩
    simp [Op.equalIn, r_und hT, go_sem]
  · rename_i hT; cases hx; cases hy; cases h
    refine ⟨by rcases ho with rfl | rfl <;> simp [eqGuard, go_sem], ?_⟩
    simp [Op.equalIn, r_und hT, go_sem]
  · rename_i hT; cases hx; cases hy; cases h
    refine ⟨by rcases ho with rfl | rfl <;> simp [eqGuard, go_sem], ?_⟩
    simp [Op.equalIn, r_und hT, go_sem]
  · rename_i hT; cases hx; cases hy; cases h
    refine ⟨by rcases ho with rfl | rfl <;> simp [eqGuard, go_sem], ?_⟩
    simp [Op.equalIn, r_und hT, go_sem]
  · rename_i hT; cases hy; cases h
    cases hx with | lst a cap sz es b o g ec hcap ha =>
    have ha := ha (by simp)
    subst ha
    refine ⟨by rcases ho with rfl | rfl <;> simp [eqGuard, go_sem], ?_⟩
    simp [Op.equalIn, r_und hT, go_sem]
  · rename_i hT; cases hx; cases h
    cases hy with | lst a cap sz es b o g ec hcap ha =>
    have ha := ha (by simp)
    subst ha
    refine ⟨by rcases ho with rfl | rfl <;> simp [eqGuard, go_sem], ?_⟩
    simp [Op.equalIn, r_und hT, go_sem]
  · rename_i hT; cases hx; cases hy; cases h
    refine ⟨by rcases ho with rfl | rfl <;> simp [eqGuard, go_sem], ?_⟩
    simp [Op.equalIn, r_und hT, go_sem]
  · rename_i hT; cases hx; cases hy; cases h
    refine ⟨by rcases ho with rfl | rfl <;> simp [eqGuard, go_sem], ?_⟩
    simp [Op.equalIn, r_und hT, go_sem]
  · rename_i hT; cases hx; cases hy
    split at h <;> cases h
    rename_i hct
    refine ⟨?_, by simp [Op.equalIn, r_und hT, go_sem]⟩
    rw [hct] at hc
    rcases ho with rfl | rfl <;> cases x <;> cases y <;> first | (simp [isC] at hc; done) | simp [eqGuard, go_sem]
  · rename_i hT; cases hx; cases hy; cases h
    refine ⟨by rcases ho with rfl | rfl <;> simp [eqGuard, go_sem], ?_⟩
    simp [Op.equalIn, r_und hT, go_sem]
  · rename_i hT; cases hx; cases hy; cases h
    refine ⟨by rcases ho with rfl | rfl <;> simp [eqGuard, go_sem], ?_⟩
    simp [Op.equalIn, r_und hT, go_sem]
  · rename_i hT; cases hx with | agg us _ hlx hx => cases hy with | agg vs _ hly hy =>
    split at h
    · cases h
    · rename_i hd
      simp at hd
      refine ⟨by rcases ho with rfl | rfl <;> simp [eqGuard, hd, go_sem], ?_⟩
      exact eqFs_sound hT hd.1 h hx hy hlx hly
  · rename_i hT; cases hx with | agg us _ hlx hx => cases hy with | agg vs _ hly hy =>
    split at h
    · cases h
    · rename_i hd
      simp at hd
      split at h
      · rename_i d hE hz hk
        refine ⟨by rcases ho with rfl | rfl <;> simp [eqGuard, hd, go_sem], ?_⟩
        exact eqAs_sound hT hE hz h (of_decide_eq_true hk) hx hy hlx hly
      · cases h
  · cases h
theorem bin_run {P : Program} {op : BinOp} {T : TypeId} {x y : Operand} {u v r : Value} {w : World} (hg : (eqGuard op T x y u v).run P w = .ok () w) (h : (binOp op T u v).run P w = .ok r w) :
    (do eqGuard op T x y u v; binOp op T u v : Sem Value).run P w = .ok r w := by
  simp [hg, h, Sem.run_bind]
theorem guard_int {P : Program} {op : BinOp} {T : TypeId} {x y : Operand} {k k' : IntKind} {a b : Int} {w : World} : (eqGuard op T x y (.int k a) (.int k' b)).run P w = .ok () w := by
  cases op <;> simp [eqGuard, go_sem]
theorem guard_str {P : Program} {op : BinOp} {T : TypeId} {x y : Operand} {a b : ByteArray} {w : World} : (eqGuard op T x y (.string a) (.string b)).run P w = .ok () w := by
  cases op <;> simp [eqGuard, go_sem]
theorem pbin_sound {P : Program} {op : BinOp} {T : TypeId} {x y : Operand} {p q r : PV} {u v : Value} {H : GH} {ρ : RM} {w : World} (h : pbin P op T (isC x || isC y) p q = some r) (hx : Rel H ρ u p) (hy : Rel H ρ v q) :
    ∃ z, (do eqGuard op T x y u v; binOp op T u v : Sem Value).run P w = .ok z w ∧ Rel H ρ z r := by
  unfold pbin at h
  split at h
  · cases hx; cases hy
    obtain ⟨z, h1, h2⟩ := pshift_sound (P := P) (T := T) (w := w) h
    exact ⟨z, bin_run guard_int h1, h2 _ _⟩
  · cases hx; cases hy
    obtain ⟨z, h1, h2⟩ := pshift_sound (P := P) (T := T) (w := w) h
    exact ⟨z, bin_run guard_int h1, h2 _ _⟩
  · rename_i n1 n2
    split at h
    · rename_i e; subst e
      cases hx; cases hy
      obtain ⟨z, h1, h2⟩ := pint_sound (P := P) (T := T) (w := w) h (by rintro rfl; exact n1 rfl) (by rintro rfl; exact n2 rfl)
      exact ⟨z, bin_run guard_int h1, h2 _ _⟩
    · cases h
  · cases hx; cases hy
    obtain ⟨z, h1, h2⟩ := pstr_sound (P := P) (T := T) (w := w) h
    exact ⟨z, bin_run guard_str h1, h2 _ _⟩
  · rename_i n1 n2 n3 n4
    obtain ⟨b, hb, rfl⟩ := Option.map_eq_some_iff.1 h
    obtain ⟨h1, h2⟩ := peq_sound (w := w) hb rfl hx hy .eql (.inl rfl)
    refine ⟨.bool b, bin_run h1 ?_, .bool _⟩
    unfold peq at hb
    split at hb <;> first | cases hb | skip
    all_goals cases hx; cases hy; (try simp only [List.length_cons] at h2); simp [binOp, h2, go_sem]
  · rename_i n1 n2 n3 n4
    obtain ⟨b, hb, rfl⟩ := Option.map_eq_some_iff.1 h
    obtain ⟨h1, h2⟩ := peq_sound (w := w) hb rfl hx hy .neq (.inr rfl)
    refine ⟨.bool (!b), bin_run h1 ?_, .bool _⟩
    unfold peq at hb
    split at hb <;> first | cases hb | skip
    all_goals cases hx; cases hy; (try simp only [List.length_cons] at h2); simp [binOp, h2, go_sem]
  · cases h
end Go.Proofs.YtfhojpnofmlkdaaDoor.Pv
