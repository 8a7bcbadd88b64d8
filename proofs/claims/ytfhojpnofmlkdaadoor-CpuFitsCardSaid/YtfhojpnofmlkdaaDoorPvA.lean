/- Plain values, and what it means that a value of the machine reads as one. -/
import Derived.WalkKit
import Derived.ProofKit
import Derived.Below
import Derived.LoopN
namespace Go.Proofs.YtfhojpnofmlkdaaDoor.Pv
set_option maxHeartbeats 1000000
open Go.RowKit

/-- A plain value: no addresses. 'lst': a slice of memory that nobody writes any more. 'sl', 'ptr': into a box of the call's own. -/
inductive PV where
  | any
  | bool (b : Bool)
  | int (k : IntKind) (n : Int)
  | str (s : ByteArray)
  | agg (cs : List PV)
  | tup (vs : List PV)
  | nils
  | emp
  | lst (sz : Nat) (es : List PV)
  | sl (id sz off len : Nat)
  | cptr (cs : List PV)
  | ptr (id off : Nat)
  | nilp
  | fn (f : Nat) (caps : List PV)
  | nilfn
  | ifc (t : Nat) (v : PV)
  | nilifc
  | own (id sz : Nat) (es : List PV)
  deriving Inhabited

/-- memory that nobody writes: block, cell, value -/
abbrev GH := Nat → Nat → Option Value
/-- where the boxes lie: number of the box, block, capacity in elements -/
abbrev RM := Nat → Option (Nat × Nat)
def GH.le (H H' : GH) : Prop := ∀ b o v, H b o = some v → H' b o = some v
def RM.le (ρ ρ' : RM) : Prop := ∀ i x, ρ i = some x → ρ' i = some x
theorem GH.le.refl (H : GH) : H.le H := fun _ _ _ h => h
theorem GH.le.trans {a b c : GH} (h : a.le b) (k : b.le c) : a.le c := fun _ _ _ x => k _ _ _ (h _ _ _ x)
theorem RM.le.refl (ρ : RM) : ρ.le ρ := fun _ _ h => h
theorem RM.le.trans {a b c : RM} (h : a.le b) (k : b.le c) : a.le c := fun _ _ x => k _ _ (h _ _ x)

/-- the cells of a value; of 'any' nothing is known -/
def PV.cells? : PV → Option (List PV)
  | .any => none
  | .agg cs => some cs
  | v => some [v]

/-- the slice has no room at all, or its array is the box id -/
def Tick (ρ : RM) (id : Nat) (v : Value) : Prop := ∃ a len cap, v = .slice a len cap ∧ (cap = 0 ∨ ∃ b, a = some ⟨b, 0, none⟩ ∧ ρ id = some (b, cap))
theorem Tick.mono {ρ ρ' : RM} {id : Nat} {v : Value} (h : Tick ρ id v) (hρ : ρ.le ρ') : Tick ρ' id v := by
  obtain ⟨a, len, cap, e, h⟩ := h
  refine ⟨a, len, cap, e, ?_⟩
  rcases h with h | ⟨b, h1, h2⟩
  · exact .inl h
  · exact .inr ⟨b, h1, hρ _ _ h2⟩
def RM.nil : RM := fun _ => none
theorem RM.nil_le (ρ : RM) : RM.nil.le ρ := fun _ _ h => by cases h
inductive Rel (H : GH) : RM → Value → PV → Prop
  | any {ρ : RM} (v : Value) : Rel H ρ v .any
  | bool {ρ : RM} (b : Bool) : Rel H ρ (.bool b) (.bool b)
  | int {ρ : RM} (k : IntKind) (n : Int) : Rel H ρ (.int k n) (.int k n)
  | str {ρ : RM} (s : ByteArray) : Rel H ρ (.string s) (.str s)
  | agg {ρ : RM} (vs : Array Value) (cs : List PV) (hl : vs.size = cs.length) (h : ∀ (i : Nat) v c, vs[i]? = some v → cs[i]? = some c → Rel H ρ v c) : Rel H ρ (.agg vs) (.agg cs)
  | tup {ρ : RM} (vs : Array Value) (cs : List PV) (hl : vs.size = cs.length) (h : ∀ (i : Nat) v c, vs[i]? = some v → cs[i]? = some c → Rel H ρ v c) : Rel H ρ (.tuple vs) (.tup cs)
  | nils {ρ : RM} : Rel H ρ (.slice none 0 0) .nils
  | emp {ρ : RM} (a : Option Addr) : Rel H ρ (.slice a 0 0) .emp
  | lst {ρ : RM} (a : Option Addr) (cap sz : Nat) (es : List PV) (b o : Nat) (g : Nat → Value) (ec : Nat → List PV) (hcap : es.length ≤ cap) (ha : es ≠ [] → a = some ⟨b, o, none⟩)
      (hH : ∀ j, j < es.length * sz → H b (o + j) = some (g j)) (he : ∀ (i : Nat) e, es[i]? = some e → e.cells? = some (ec i) ∧ (ec i).length = sz)
      (hr : ∀ (i j : Nat) c, i < es.length → (ec i)[j]? = some c → Rel H RM.nil (g (i * sz + j)) c) : Rel H ρ (.slice a es.length cap) (.lst sz es)
  | sl {ρ : RM} (id sz off len b cap : Nat) (hρ : ρ id = some (b, cap)) (hc : off + len ≤ cap) : Rel H ρ (.slice (some ⟨b, off * sz, none⟩) len (cap - off)) (.sl id sz off len)
  | cptr {ρ : RM} (b o : Nat) (cs : List PV) (g : Nat → Value) (hH : ∀ j, j < cs.length → H b (o + j) = some (g j)) (hr : ∀ (j : Nat) c, cs[j]? = some c → Rel H RM.nil (g j) c) : Rel H ρ (.pointer (some ⟨b, o, none⟩)) (.cptr cs)
  | ptr {ρ : RM} (id off b cap : Nat) (hρ : ρ id = some (b, cap)) : Rel H ρ (.pointer (some ⟨b, off, none⟩)) (.ptr id off)
  | nilp {ρ : RM} : Rel H ρ (.pointer none) .nilp
  | fn {ρ : RM} (f : Nat) (vs : Array Value) (cs : List PV) (hl : vs.size = cs.length) (h : ∀ (i : Nat) v c, vs[i]? = some v → cs[i]? = some c → Rel H ρ v c) : Rel H ρ (.func (.func f) #[] vs) (.fn f cs)
  | nilfn {ρ : RM} : Rel H ρ .nilFunc .nilfn
  | ifc {ρ : RM} (t : Nat) (v : Value) (x : PV) (h : Rel H ρ v x) : Rel H ρ (.iface t v) (.ifc t x)
  | nilifc {ρ : RM} : Rel H ρ .nilIface .nilifc
  | own {ρ : RM} (v : Value) (id sz : Nat) (es : List PV) (h : Rel H RM.nil v (.lst sz es)) (ht : Tick ρ id v) : Rel H ρ v (.own id sz es)

theorem Rel.mono {H H' : GH} {ρ ρ' : RM} {v : Value} {p : PV} (h : Rel H ρ v p) (hH : H.le H') (hρ : ρ.le ρ') : Rel H' ρ' v p := by
  induction h generalizing ρ' with
  | any v => exact .any v
  | bool b => exact .bool b
  | int k n => exact .int k n
  | str s => exact .str s
  | agg vs cs hl _ ih => exact .agg vs cs hl fun i v c hv hc => ih i v c hv hc hρ
  | tup vs cs hl _ ih => exact .tup vs cs hl fun i v c hv hc => ih i v c hv hc hρ
  | nils => exact .nils
  | emp a => exact .emp a
  | lst a cap sz es b o g ec hcap ha h1 he _ ih => exact .lst a cap sz es b o g ec hcap ha (fun j hj => hH _ _ _ (h1 j hj)) he fun i j c hi hj => ih i j c hi hj (.refl _)
  | sl id sz off len b cap h1 h2 => exact .sl id sz off len b cap (hρ _ _ h1) h2
  | cptr b o cs g h1 _ ih => exact .cptr b o cs g (fun j hj => hH _ _ _ (h1 j hj)) fun j c hj => ih j c hj (.refl _)
  | ptr id off b cap h1 => exact .ptr id off b cap (hρ _ _ h1)
  | nilp => exact .nilp
  | fn f vs cs hl _ ih => exact .fn f vs cs hl fun i v c hv hc => ih i v c hv hc hρ
  | nilfn => exact .nilfn
  | ifc t v x _ ih => exact .ifc t v x (ih hρ)
  | nilifc => exact .nilifc
  | own v id sz es _ ht ih => exact .own v id sz es (ih (.refl _)) (ht.mono hρ)
theorem Rel.up {H : GH} {ρ : RM} {v : Value} {p : PV} (h : Rel H RM.nil v p) : Rel H ρ v p := h.mono (.refl _) (RM.nil_le _)

/-- no part of the value is an address at all -/
inductive Flat : PV → Prop
  | bool (b : Bool) : Flat (.bool b)
  | int (k : IntKind) (n : Int) : Flat (.int k n)
  | str (s : ByteArray) : Flat (.str s)
  | agg (cs : List PV) (h : ∀ (i : Nat) c, cs[i]? = some c → Flat c) : Flat (.agg cs)
  | tup (cs : List PV) (h : ∀ (i : Nat) c, cs[i]? = some c → Flat c) : Flat (.tup cs)
  | nils : Flat .nils
  | emp : Flat .emp
  | nilp : Flat .nilp
  | nilfn : Flat .nilfn
  | nilifc : Flat .nilifc
theorem Rel.flat {H H' : GH} {ρ ρ' : RM} {v : Value} {p : PV} (h : Rel H ρ v p) (hc : Flat p) : Rel H' ρ' v p := by
  induction h with
  | any v => exact .any v
  | bool b => exact .bool b
  | int k n => exact .int k n
  | str s => exact .str s
  | agg vs cs hl _ ih => cases hc with | agg _ h => exact .agg vs cs hl fun i v c hv hc => ih i v c hv hc (h i c hc)
  | tup vs cs hl _ ih => cases hc with | tup _ h => exact .tup vs cs hl fun i v c hv hc => ih i v c hv hc (h i c hc)
  | nils => exact .nils
  | emp a => exact .emp a
  | nilp => exact .nilp
  | nilfn => exact .nilfn
  | nilifc => exact .nilifc
  | _ => cases hc

/-- read only -/
def PV.un : PV → PV
  | .own _ sz es => .lst sz es
  | v => v
theorem Rel.un {H : GH} {ρ : RM} {v : Value} {p : PV} (h : Rel H ρ v p) : Rel H ρ v p.un := by
  cases h
  case own id sz es h ht => exact h.up
  all_goals constructor <;> assumption
theorem Rel.cells {H : GH} {ρ : RM} {v : Value} {p : PV} (h : Rel H ρ v p) {cs : List PV} (hc : p.cells? = some cs) :
    v.cells.size = cs.length ∧ ∀ (i : Nat) u c, v.cells[i]? = some u → cs[i]? = some c → Rel H ρ u c := by
  cases h with
  | any => cases hc
  | agg vs cs' hl h => cases hc; exact ⟨hl, h⟩
  | own _ id sz es h ht =>
    cases hc
    obtain ⟨a, len, cap, rfl, ht⟩ := ht
    refine ⟨rfl, fun i u c hu hi => ?_⟩
    cases i with
    | zero => simp [Value.cells] at hu hi; subst hu; subst hi; exact .own _ _ _ _ h ⟨a, len, cap, rfl, ht⟩
    | succ n => simp at hi
  | _ =>
    cases hc
    refine ⟨rfl, fun i u c hu hi => ?_⟩
    cases i with
    | zero => simp [Value.cells] at hu hi; subst hu; subst hi; constructor <;> assumption
    | succ n => simp at hi
end Go.Proofs.YtfhojpnofmlkdaaDoor.Pv
