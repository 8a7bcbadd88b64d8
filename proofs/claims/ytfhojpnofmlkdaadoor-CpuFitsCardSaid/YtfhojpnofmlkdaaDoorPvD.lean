/- Operations that touch no box, all of them. -/
import Derived.Test.YtfhojpnofmlkdaaDoorPvC
namespace Go.Proofs.YtfhojpnofmlkdaaDoor.Pv
open Go.RowKit
set_option linter.unusedSimpArgs false
set_option linter.unusedVariables false
set_option maxHeartbeats 1000000

def pun (op : UnOp) (x : PV) : Option PV :=
  match op, x with
  | .neg, .int k n => some (.int k (k.wrap (0 - n)))
  | .not, .bool b => some (.bool !b)
  | .xor, .int k n => some (.int k (k.wrap (BitVec.ofInt k.bits (if k.signed then -1 else k.max) ^^^ BitVec.ofInt k.bits n).toNat))
  | _, _ => none
/-- an index into a slice, an array behind a pointer -/
def pidx (P : Program) (T : TypeId) (x i : PV) : Option PV :=
  match P.underlying T, x.un, i with
  | some (.slice E), .lst sz es, .int _ n =>
    if 0 ≤ n ∧ n < es.length ∧ szT P E = some sz then (es[n.toNat]?).bind fun e => (e.cells?).map .cptr else none
  | some (.slice E), .sl id sz off len, .int _ n =>
    if 0 ≤ n ∧ n < len ∧ szT P E = some sz then some (.ptr id (off * sz + n.toNat * sz)) else none
  | some (.array m E), .ptr id off, .int _ n =>
    match szT P E with
    | some sz => if 0 ≤ n ∧ n < m then some (.ptr id (off + n.toNat * sz)) else none
    | none => none
  | some (.array m E), .cptr cs, .int _ n =>
    match szT P E with
    | some sz => if 0 ≤ n ∧ n < m ∧ n.toNat * sz ≤ cs.length then some (.cptr (cs.drop (n.toNat * sz))) else none
    | none => none
  | _, _, _ => none
/-- a part of an array, a byte of a string -/
def pindex (P : Program) (T : TypeId) (x i : PV) : Option PV :=
  match P.underlying T, x, i with
  | some (.array m E), .agg cs, .int _ n =>
    match szT P E with
    | some sz => if 0 ≤ n ∧ n < m ∧ n.toNat * sz + sz ≤ cs.length then mk P E ((cs.drop (n.toNat * sz)).take sz) else none
    | none => none
  | some .string, .str s, .int _ n => if 0 ≤ n then (s[n.toNat]?).map fun c => .int .u8 c.toNat else none
  | _, _, _ => none
def pfieldAddr (P : Program) (S : TypeId) (x : PV) (f : Nat) : Option PV :=
  match P.underlying S with
  | some (.struct fs) =>
    match fs[f]? with
    | some q =>
      match szT P q.type with
      | some (n + 1) =>
        match x with
        | .ptr id off => some (.ptr id (off + q.offset))
        | .cptr cs => if q.offset ≤ cs.length then some (.cptr (cs.drop q.offset)) else none
        | _ => none
      | _ => none
    | none => none
  | _ => none
def pfield (P : Program) (S : TypeId) (x : PV) (f : Nat) : Option PV :=
  match P.underlying S, x with
  | some (.struct fs), .agg cs =>
    match fs[f]? with
    | some q =>
      match szT P q.type with
      | some n => if q.offset + n ≤ cs.length then mk P q.type ((cs.drop q.offset).take n) else none
      | none => none
    | none => none
  | _, _ => none
/-- the bounds of a slice expression without a third index -/
def bnd (x : Option PV) (dflt : Nat) : Option Nat :=
  match x with
  | none => some dflt
  | some (.int _ n) => if 0 ≤ n then some n.toNat else none
  | some _ => none
def pslice (P : Program) (T : TypeId) (x : PV) (lo hi mx : Option PV) : Option PV :=
  match P.underlying T, x.un, mx with
  | some .string, .str s, none =>
    match bnd lo 0, bnd hi s.size with
    | some l, some h => if l ≤ h ∧ h ≤ s.size then some (.str (s.extract l h)) else none
    | _, _ => none
  | some (.slice E), .lst sz es, none =>
    match bnd lo 0, bnd hi es.length with
    | some l, some h => if l ≤ h ∧ h ≤ es.length ∧ szT P E = some sz then some (.lst sz ((es.take h).drop l)) else none
    | _, _ => none
  | some (.slice E), .lst sz es, some (.int _ 0) =>
    match bnd lo 0, bnd hi 1 with
    | some 0, some 0 => if (szT P E).isSome then some .emp else none
    | _, _ => none
  | some (.slice E), .sl id sz off len, none =>
    match bnd lo 0, bnd hi len with
    | some l, some h => if l ≤ h ∧ h ≤ len ∧ szT P E = some sz ∧ (l = 0 ∨ l < h) then some (.sl id sz (off + l) (h - l)) else none
    | _, _ => none
  | some (.slice E), .sl id sz off len, some (.int _ 0) =>
    match bnd lo 0, bnd hi 1 with
    | some 0, some 0 => if (szT P E).isSome then some .emp else none
    | _, _ => none
  | some (.slice E), .nils, none =>
    match bnd lo 0, bnd hi 0 with
    | some 0, some 0 => if (szT P E).isSome then some .emp else none
    | _, _ => none
  | some (.slice E), .nils, some (.int _ 0) =>
    match bnd lo 0, bnd hi 1 with
    | some 0, some 0 => if (szT P E).isSome then some .emp else none
    | _, _ => none
  | some (.slice E), .emp, none =>
    match bnd lo 0, bnd hi 0 with
    | some 0, some 0 => if (szT P E).isSome then some .emp else none
    | _, _ => none
  | some (.slice E), .emp, some (.int _ 0) =>
    match bnd lo 0, bnd hi 1 with
    | some 0, some 0 => if (szT P E).isSome then some .emp else none
    | _, _ => none
  | _, _, _ => none
def plen (P : Program) (T : TypeId) (x : PV) : Option PV :=
  match P.underlying T, x.un with
  | some .string, .str s => some (.int .i64 s.size)
  | some (.slice _), .lst _ es => some (.int .i64 es.length)
  | some (.slice _), .sl _ _ _ len => some (.int .i64 len)
  | some (.slice _), .nils => some (.int .i64 0)
  | some (.slice _), .emp => some (.int .i64 0)
  | some (.array n _), _ => some (.int .i64 n)
  | _, _ => none
def pconv (P : Program) (s t : TypeId) (x : PV) : Option PV :=
  match P.underlying s, P.underlying t, x with
  | some _, some (.int k), .int _ n => some (.int k (k.wrap n))
  | some _, some .string, .str a => some (.str a)
  | _, _, _ => none
/-- the parts of a struct or an array, laid over its zero -/
def pfill (place : Nat → Option (Nat × Nat)) (cs : List PV) : List (Nat × PV) → Option (List PV)
  | [] => some cs
  | (i, x) :: rest =>
    match place i, x.cells? with
    | some (off, n), some xs => if xs.length = n ∧ off + n ≤ cs.length then pfill place (cs.take off ++ xs ++ cs.drop (off + n)) rest else none
    | _, _ => none
def zeroP (P : Program) (T : TypeId) : Option (List PV) :=
  match P.info? T with
  | some i => i.zero.map fun v => v.cells.toList.map ofConst
  | none => none
def places (P : Program) (fs : Array Field) (i : Nat) : Option (Nat × Nat) :=
  match fs[i]? with
  | some f => (szT P f.type).map fun n => (f.offset, n)
  | none => none
def pbuild (P : Program) (T : TypeId) (parts : List (Nat × PV)) : Option PV :=
  match P.underlying T, zeroP P T with
  | some (.struct fs), some z => if fs.all fun f => (szT P f.type).isSome then (pfill (places P fs) z parts).map .agg else none
  | some (.array _ E), some z =>
    match szT P E with
    | some n => (pfill (fun i => some (i * n, n)) z parts).map .agg
    | none => none
  | _, _ => none
def pminmax (mx : Bool) (x y : PV) : Option PV :=
  match x, y with
  | .int k a, .int _ b => some (.int k (if mx then max a b else min a b))
  | _, _ => none

/-- what an operation that touches no box leaves -/
def popA (P : Program) (ev : Operand → PV) : Op → Option PV
  | .move x => some (ev x)
  | .assign x => some (ev x)
  | .pick c a b => match ev c with | .bool t => some (if t then ev a else ev b) | _ => none
  | .nilCheck x => match ev x with | .ptr i o => some (.ptr i o) | .cptr cs => some (.cptr cs) | .fn f cs => some (.fn f cs) | _ => none
  | .binOp op T x y _ => pbin P op T (isC x || isC y) (ev x) (ev y)
  | .unOp op _ x => pun op (ev x)
  | .convert s t x => pconv P s t (ev x)
  | .makeFunc (.func f) first caps => if first.size = 0 then some (.fn f (caps.toList.map ev)) else none
  | .fieldAddr S x f => pfieldAddr P S (ev x) f
  | .field S x f => pfield P S (ev x) f
  | .indexAddr T x i => pidx P T (ev x) (ev i)
  | .index T x i => pindex P T (ev x) (ev i)
  | .slice T x lo hi mx => pslice P T (ev x) (lo.map ev) (hi.map ev) (mx.map ev)
  | .extract x i => match ev x with | .tup vs => vs[i]? | _ => none
  | .build T parts => pbuild P T (parts.toList.map fun (i, x) => (i, ev x))
  | .makeInterface T x => match P.underlying T with | some (.interface _) => none | some _ => some (.ifc T (ev x)) | none => none
  | .call { callee := .builtin .len, args, argTypes } => match argTypes[0]?, args[0]? with | some T, some x => plen P T (ev x) | _, _ => none
  | .call { callee := .builtin .max, args, .. } => match args.toList with | [x, y] => pminmax true (ev x) (ev y) | _ => none
  | .call { callee := .builtin .min, args, .. } => match args.toList with | [x, y] => pminmax false (ev x) (ev y) | _ => none
  | _ => none

theorem pun_sound {P : Program} {op : UnOp} {x r : PV} {u : Value} {H : GH} {ρ : RM} {w : World} (h : pun op x = some r) (hx : Rel H ρ u x) : ∃ z, (Op.unary op u).run P w = .ok z w ∧ Rel H ρ z r := by
  unfold pun at h
  split at h
  · cases hx; cases h; exact ⟨_, by simp [Op.unary, Op.intArith, go_sem], .int _ _⟩
  · cases hx; cases h; exact ⟨_, by simp [Op.unary, go_sem], .bool _⟩
  · cases hx; cases h; exact ⟨_, by simp [Op.unary, Op.intBits, go_sem], .int _ _⟩
  · cases h
theorem pconv_sound {P : Program} {s t : TypeId} {x r : PV} {u : Value} {H : GH} {ρ : RM} {w : World} (h : pconv P s t x = some r) (hx : Rel H ρ u x) : ∃ z, (convert s t u).run P w = .ok z w ∧ Rel H ρ z r := by
  unfold pconv at h
  split at h
  · rename_i d k _ n h1 h2
    cases hx; cases h; exact ⟨_, by simp [convert, r_und h1, r_und h2, Conv.intToInt, go_sem], .int _ _⟩
  · rename_i d a h1 h2
    cases hx; cases h; exact ⟨.string a, by cases d <;> simp [convert, r_und h1, r_und h2, go_sem], .str _⟩
  · cases h
theorem plen_sound {P : Program} {T ty : TypeId} {ts : Array TypeId} {vs : Array Value} {x r : PV} {u : Value} {H : GH} {ρ : RM} {w : World} (ht : ts[0]? = some T) (hv : vs[0]? = some u) (h : plen P T x = some r) (hx : Rel H ρ u x) : ∃ z, (Builtin.len_ ts ty vs).run P w = .ok z w ∧ Rel H ρ z r := by
  replace hx := hx.un
  unfold plen at h
  generalize x.un = x at h hx
  split at h
  · rename_i h1; cases hx; cases h; exact ⟨_, by simp [Builtin.len_, ht, hv, r_und h1, goInt, go_sem], .int _ _⟩
  · rename_i h1; cases hx; cases h; exact ⟨_, by simp [Builtin.len_, ht, hv, r_und h1, goInt, go_sem], .int _ _⟩
  · rename_i h1; cases hx; cases h; exact ⟨_, by simp [Builtin.len_, ht, hv, r_und h1, goInt, go_sem], .int _ _⟩
  · rename_i h1; cases hx; cases h; exact ⟨_, by simp [Builtin.len_, ht, hv, r_und h1, goInt, go_sem], .int _ _⟩
  · rename_i h1; cases hx; cases h; exact ⟨_, by simp [Builtin.len_, ht, hv, r_und h1, goInt, go_sem], .int _ _⟩
  · rename_i n E h1; cases h; exact ⟨.int .i64 n, by simp [Builtin.len_, ht, hv, r_und h1, goInt, go_sem], .int _ _⟩
  · cases h
theorem pidx_sound {P : Program} {T : TypeId} {x i r : PV} {u v : Value} {H : GH} {ρ : RM} {w : World} (h : pidx P T x i = some r) (hx : Rel H ρ u x) (hi : Rel H ρ v i) : ∃ z, (Instr.indexAt T u v).run P w = .ok z w ∧ Rel H ρ z r := by
  replace hx := hx.un
  unfold pidx at h
  generalize x.un = x at h hx
  split at h
  · rename_i E sz es k n hT
    split at h
    · rename_i hc
      obtain ⟨h0, h1, hs⟩ := hc
      cases hi
      cases hx with | lst a cap _ _ b o g ec hcap ha hH he hr =>
      obtain ⟨e, hee, hm⟩ := Option.bind_eq_some_iff.1 h
      obtain ⟨cs, hcs, rfl⟩ := Option.map_eq_some_iff.1 hm
      obtain ⟨k1, k2⟩ := he _ _ hee
      rw [hcs] at k1; cases k1
      have ha' := ha (by rintro rfl; simp at hee)
      subst ha'
      have hlt : n.toNat < es.length := by omega
      refine ⟨.pointer (some ⟨b, o + n.toNat * sz, none⟩), ?_, .cptr b (o + n.toNat * sz) (ec n.toNat) (fun j => g (n.toNat * sz + j)) (fun j hj => ?_) (fun j c hj => hr _ j c hlt hj)⟩
      · simp [Instr.indexAt, r_und hT, asIntOf, h0, h1, r_size hs, go_sem, add_addr]
      · have : n.toNat * sz + j < es.length * sz := by
          calc n.toNat * sz + j < n.toNat * sz + sz := by omega
            _ = (n.toNat + 1) * sz := by rw [Nat.add_mul]; omega
            _ ≤ es.length * sz := Nat.mul_le_mul_right _ hlt
        have := hH _ this
        rw [← Nat.add_assoc] at this
        exact this
    · cases h
  · rename_i E id sz off len k n hT
    split at h
    · rename_i hc
      obtain ⟨h0, h1, hs⟩ := hc
      cases hi; cases h
      cases hx with | sl _ _ _ _ b cap hρ hc =>
      refine ⟨.pointer (some ⟨b, off * sz + n.toNat * sz, none⟩), ?_, .ptr _ _ b cap hρ⟩
      simp [Instr.indexAt, r_und hT, asIntOf, h0, h1, r_size hs, go_sem, add_addr]
    · cases h
  · rename_i m E id off k n hT
    split at h
    · rename_i sz hs
      split at h
      · rename_i hc
        cases hi; cases h
        cases hx with | ptr _ _ b cap hρ =>
        refine ⟨.pointer (some ⟨b, off + n.toNat * sz, none⟩), ?_, .ptr _ _ b cap hρ⟩
        simp [Instr.indexAt, r_und hT, asIntOf, Instr.sureAddr, hc.1, hc.2, r_size hs, go_sem, add_addr]
      · cases h
    · cases h
  · rename_i m E cs k n hT
    split at h
    · rename_i sz hs
      split at h
      · rename_i hc
        cases hi; cases h
        cases hx with | cptr b o _ g hH hr =>
        refine ⟨.pointer (some ⟨b, o + n.toNat * sz, none⟩), ?_, .cptr b _ _ (fun j => g (n.toNat * sz + j)) (fun j hj => ?_) (fun j c hj => ?_)⟩
        · simp [Instr.indexAt, r_und hT, asIntOf, Instr.sureAddr, hc.1, hc.2.1, r_size hs, go_sem, add_addr]
        · have := hH (n.toNat * sz + j) (by simp at hj; omega)
          rw [← Nat.add_assoc] at this
          exact this
        · rw [List.getElem?_drop] at hj
          exact hr _ _ hj
      · cases h
    · cases h
  · cases h

theorem mk_sound {P : Program} {T : TypeId} {cs : List PV} {r : PV} {us : List Value} {H : GH} {ρ : RM} (h : mk P T cs = some r) (hl : us.length = cs.length) (hr : ∀ (i : Nat) v c, us[i]? = some v → cs[i]? = some c → Rel H ρ v c) :
    ∃ n b, szT P T = some n ∧ isA P T = some b ∧ (b = true → n ≤ us.length ∧ Rel H ρ (.agg (us.take n).toArray) r) ∧ (b = false → ∃ u, us[0]? = some u ∧ Rel H ρ u r) := by
  unfold mk at h
  split at h
  · rename_i n h1 h2
    split at h
    · cases h
      refine ⟨n, true, h1, h2, fun _ => ⟨by omega, .agg _ _ (by simp; omega) fun i v c hv hc => ?_⟩, fun e => by cases e⟩
      simp at hv
      rw [List.getElem?_take] at hv hc
      split at hv
      · rename_i hi
        rw [if_pos hi] at hc
        exact hr i v c hv hc
      · cases hv
    · cases h
  · rename_i n h1 h2
    refine ⟨n, false, h1, h2, (fun e => by cases e), fun _ => ?_⟩
    cases cs with
    | nil => cases h
    | cons c cs =>
      cases h
      cases us with
      | nil => simp at hl
      | cons u us => exact ⟨u, rfl, hr 0 u r rfl rfl⟩
  · cases h
/-- a part of a struct's cells -/
theorem part_sound {P : Program} {T : TypeId} {off n : Nat} {cs : List PV} {r : PV} {us : Array Value} {H : GH} {ρ : RM} {w : World} (hn : szT P T = some n) (hb : off + n ≤ cs.length) (h : mk P T ((cs.drop off).take n) = some r) (hl : us.size = cs.length) (hr : ∀ (i : Nat) v c, us[i]? = some v → cs[i]? = some c → Rel H ρ v c) :
    ∃ z, (part T us off).run P w = .ok z w ∧ Rel H ρ z r := by
  obtain ⟨n', b, h1, h2, h3, h4⟩ := mk_sound (us := (us.toList.drop off).take n) h (by simp; omega) (fun i v c hv hc => by
    rw [List.getElem?_take] at hv hc
    split at hv
    · rename_i hi
      rw [if_pos hi, List.getElem?_drop] at hc
      rw [List.getElem?_drop, Array.getElem?_toList] at hv
      exact hr _ v c hv hc
    · cases hv)
  rw [hn] at h1; cases h1
  cases b
  · obtain ⟨u, hu, hx⟩ := h4 rfl
    refine ⟨u, ?_, hx⟩
    rw [List.getElem?_take] at hu
    split at hu
    · rw [List.getElem?_drop, Array.getElem?_toList] at hu
      simp [part, r_agg h2, show us[off]? = some u from hu, go_sem]
    · cases hu
  · refine ⟨_, ?_, (h3 rfl).2⟩
    have e : us.extract off (off + n) = (List.take n (List.take n (List.drop off us.toList))).toArray := by
      rw [List.take_take, Nat.min_self]
      apply Array.ext'
      rw [Array.toList_extract]
      simp
    simp [part, Sem.run_bind, r_agg h2, r_size hn, go_sem, e]
theorem pindex_sound {P : Program} {T : TypeId} {x i r : PV} {u v : Value} {H : GH} {ρ : RM} {w : World} (h : pindex P T x i = some r) (hx : Rel H ρ u x) (hi : Rel H ρ v i) : ∃ z, (Instr.index T u v).run P w = .ok z w ∧ Rel H ρ z r := by
  unfold pindex at h
  split at h
  · rename_i m E cs k n hT
    split at h
    · rename_i sz hs
      split at h
      · rename_i hc
        cases hi
        cases hx with | agg us _ hl hr =>
        obtain ⟨z, h1, h2⟩ := part_sound (w := w) hs hc.2.2 h hl hr
        refine ⟨z, ?_, h2⟩
        simp [Instr.index, r_und hT, asIntOf, hc.1, hc.2.1, r_size hs, h1, Sem.run_bind]
      · cases h
    · cases h
  · rename_i s k n hT
    split at h
    · rename_i h0
      cases hi; cases hx
      obtain ⟨c, hc, rfl⟩ := Option.map_eq_some_iff.1 h
      exact ⟨.int .u8 c.toNat, by simp [Instr.index, r_und hT, asIntOf, h0, hc, go_sem], .int _ _⟩
    · cases h
  · cases h
theorem pfield_sound {P : Program} {S : TypeId} {f : Nat} {x r : PV} {u : Value} {H : GH} {ρ : RM} {w : World} (h : pfield P S x f = some r) (hx : Rel H ρ u x) : ∃ z, (Instr.field S u f).run P w = .ok z w ∧ Rel H ρ z r := by
  unfold pfield at h
  split at h
  · rename_i fs cs hS
    split at h
    · rename_i q hq
      split at h
      · rename_i n hn
        split at h
        · rename_i hb
          cases hx with | agg us _ hl hr =>
          obtain ⟨z, h1, h2⟩ := part_sound (w := w) hn hb h hl hr
          exact ⟨z, by simp [Instr.field, r_und hS, hq, asAgg, h1, Sem.run_bind], h2⟩
        · cases h
      · cases h
    · cases h
  · cases h
theorem pfieldAddr_sound {P : Program} {S : TypeId} {f : Nat} {x r : PV} {u : Value} {H : GH} {ρ : RM} {w : World} (h : pfieldAddr P S x f = some r) (hx : Rel H ρ u x) : ∃ z, (Instr.fieldAt S u f).run P w = .ok z w ∧ Rel H ρ z r := by
  unfold pfieldAddr at h
  split at h
  · rename_i fs hS
    split at h
    · rename_i q hq
      split at h
      · rename_i n hn
        split at h
        · rename_i id off
          cases h
          cases hx with | ptr _ _ b cap hρ =>
          exact ⟨.pointer (some ⟨b, off + q.offset, none⟩), by simp [Instr.fieldAt, r_und hS, hq, Instr.sureAddr, fieldPlace, r_size hn, go_sem, add_addr], .ptr _ _ b cap hρ⟩
        · rename_i cs
          split at h
          · rename_i hb
            cases h
            cases hx with | cptr b o _ g hH hr =>
            refine ⟨.pointer (some ⟨b, o + q.offset, none⟩), by simp [Instr.fieldAt, r_und hS, hq, Instr.sureAddr, fieldPlace, r_size hn, go_sem, add_addr], .cptr b _ _ (fun j => g (q.offset + j)) (fun j hj => ?_) (fun j c hj => ?_)⟩
            · have := hH (q.offset + j) (by simp at hj; omega)
              rw [← Nat.add_assoc] at this
              exact this
            · rw [List.getElem?_drop] at hj
              exact hr _ _ hj
          · cases h
        · cases h
      · cases h
    · cases h
  · cases h

def RelO (H : GH) (ρ : RM) (u : Option Value) (x : Option PV) : Prop := (x = none → u = none) ∧ ∀ y, x = some y → ∃ v, u = some v ∧ Rel H ρ v y
theorem bound_run {P : Program} {x : PV} {u : Value} {n y d : Nat} {c : BoundsCode} {H : GH} {ρ : RM} {w : World} (hx : Rel H ρ u x) (h : bnd (some x) d = some n) (hy : n ≤ y) : (Instr.sliceBound u y c).run P w = .ok n w := by
  unfold bnd at h
  split at h
  · rename_i e; cases e
  · rename_i k m e
    cases e
    split at h
    · rename_i h0
      cases h; cases hx
      have h1 : m ≤ y := by omega
      simp [Instr.sliceBound, asIntOf, h0, h1, go_sem]
    · cases h
  · cases h
/-- the bounds of a slice expression: what the machine reckons -/
theorem bounds_run {P : Program} {isS : Bool} {len cap l h : Nat} {lo hi : Option PV} {ul uh : Option Value} {H : GH} {ρ : RM} {w : World} (h1 : bnd lo 0 = some l) (h2 : bnd hi len = some h) (hl : RelO H ρ ul lo) (hh : RelO H ρ uh hi)
    (hlh : l ≤ h) (hc : h ≤ cap) : (Instr.sliceBounds isS len cap ul uh none).run P w = .ok (l, h, cap) w := by
  cases lo with
  | none =>
    cases hl.1 rfl
    simp [bnd] at h1
    cases hi with
    | none =>
      cases hh.1 rfl
      simp [bnd] at h2
      simp [Instr.sliceBounds, go_sem, h1, h2]
    | some y =>
      obtain ⟨u, rfl, hu⟩ := hh.2 y rfl
      have e := fun c => bound_run (P := P) (w := w) (c := c) hu h2 hc
      simp [Instr.sliceBounds, Sem.run_bind, e, h1]
  | some x =>
    obtain ⟨u, rfl, hu⟩ := hl.2 x rfl
    have e1 := fun c => bound_run (P := P) (w := w) (c := c) hu h1 hlh
    cases hi with
    | none =>
      cases hh.1 rfl
      simp [bnd] at h2
      subst h2
      simp [Instr.sliceBounds, Sem.run_bind, e1]
    | some y =>
      obtain ⟨v, rfl, hv⟩ := hh.2 y rfl
      have e := fun c => bound_run (P := P) (w := w) (c := c) hv h2 hc
      simp [Instr.sliceBounds, Sem.run_bind, e, e1]
/-- 's[:0:0]' -/
theorem bounds_run0 {P : Program} {len cap : Nat} {k : IntKind} {lo hi : Option PV} {ul uh : Option Value} {H : GH} {ρ : RM} {w : World} (h1 : bnd lo 0 = some 0) (h2 : bnd hi 1 = some 0) (hl : RelO H ρ ul lo) (hh : RelO H ρ uh hi) :
    (Instr.sliceBounds true len cap ul uh (some (.int k 0))).run P w = .ok (0, 0, 0) w := by
  have e0 : ∀ c, (Instr.sliceBound (.int k 0) cap c).run P w = .ok 0 w := fun c => bound_run (H := H) (ρ := ρ) (d := 0) (.int k 0) (by simp [bnd]) (by omega)
  cases hi with
  | none => simp [bnd] at h2
  | some y =>
    obtain ⟨v, rfl, hv⟩ := hh.2 y rfl
    have e := fun c => bound_run (P := P) (w := w) (c := c) (y := 0) hv h2 (Nat.le_refl _)
    cases lo with
    | none =>
      cases hl.1 rfl
      simp [Instr.sliceBounds, Sem.run_bind, e, e0]
    | some x =>
      obtain ⟨u, rfl, hu⟩ := hl.2 x rfl
      have e1 := fun c => bound_run (P := P) (w := w) (c := c) (y := 0) hu h1 (Nat.le_refl _)
      simp [Instr.sliceBounds, Sem.run_bind, e, e0, e1]
theorem slice_at {P : Program} {T : TypeId} {d : TypeDesc} {x : Value} {lo hi mx : Option Value} {w : World} (h : P.underlying T = some d) (hd : (match d with | .array _ _ => true | _ => false) = false) : (Instr.sliceAt T x lo hi mx).run P w = (Instr.slice T x lo hi mx).run P w := by
  unfold Instr.sliceAt
  rw [Sem.run_bind, r_und h]
  cases d <;> first | rfl | cases hd
theorem pslice_sound {P : Program} {T : TypeId} {x r : PV} {lo hi mx : Option PV} {u : Value} {ul uh um : Option Value} {H : GH} {ρ : RM} {w : World} (h : pslice P T x lo hi mx = some r) (hx : Rel H ρ u x) (hl : RelO H ρ ul lo) (hh : RelO H ρ uh hi) (hm : RelO H ρ um mx) :
    ∃ z, (Instr.sliceAt T u ul uh um).run P w = .ok z w ∧ Rel H ρ z r := by
  replace hx := hx.un
  unfold pslice at h
  generalize x.un = x at h hx
  split at h
  · rename_i s hT
    rw [slice_at hT rfl]
    cases hm.1 rfl
    cases hx
    split at h
    · rename_i l h' h1 h2
      split at h
      · rename_i hc
        cases h
        have e := bounds_run (P := P) (w := w) (isS := false) h1 h2 hl hh hc.1 hc.2
        exact ⟨.string (s.extract l h'), by simp [Instr.slice, r_und hT, e, Sem.run_bind], .str _⟩
      · cases h
    · cases h
  · rename_i E sz es hT
    rw [slice_at hT rfl]
    cases hm.1 rfl
    cases hx with | lst a cap _ _ b o g ec hcap ha hH he hr =>
    split at h
    · rename_i l h' h1 h2
      split at h
      · rename_i hc
        obtain ⟨c1, c2, c3⟩ := hc
        cases h
        have e := bounds_run (P := P) (w := w) (isS := true) h1 h2 hl hh c1 (Nat.le_trans c2 hcap)
        have hlen : ((es.take h').drop l).length = h' - l := by simp; omega
        refine ⟨_, by simp [Instr.slice, r_und hT, e, r_size c3, Sem.run_bind]; rfl, ?_⟩
        rw [show h' - l = ((es.take h').drop l).length by rw [hlen]]
        refine .lst _ _ sz _ b (o + l * sz) (fun j => g (l * sz + j)) (fun i => ec (l + i)) (by rw [hlen]; omega) (fun hne => ?_) (fun j hj => ?_) (fun i e hi => ?_) (fun i j c hi hj => ?_)
        · have hlt : l < h' := by
            by_cases hq : l < h'
            · exact hq
            · exact absurd (List.eq_nil_of_length_eq_zero (by rw [hlen]; omega)) hne
          have hes : es ≠ [] := by rintro rfl; simp at c2; omega
          rw [if_neg (by omega), ha hes]
          simp [add_addr]
        · rw [hlen] at hj
          have hj' : l * sz + j < es.length * sz := by
            have : l * sz + (h' - l) * sz = h' * sz := by rw [← Nat.add_mul]; congr 1; omega
            have : h' * sz ≤ es.length * sz := Nat.mul_le_mul_right _ c2
            omega
          have := hH _ hj'
          rw [← Nat.add_assoc] at this
          exact this
        · rw [List.getElem?_drop, List.getElem?_take] at hi
          split at hi
          · exact he _ _ hi
          · cases hi
        · rw [hlen] at hi
          have := hr (l + i) j c (by omega) hj
          rw [Nat.add_mul, Nat.add_assoc] at this
          exact this
      · cases h
    · cases h
  · rename_i E sz es k hT
    rw [slice_at hT rfl]
    obtain ⟨v, rfl, hv⟩ := hm.2 _ rfl
    cases hv
    cases hx with | lst a cap _ _ b o g ec hcap ha hH he hr =>
    split at h
    · rename_i h1 h2
      split at h
      · rename_i hs
        cases h
        obtain ⟨n, hn⟩ := Option.isSome_iff_exists.1 hs
        exact ⟨.slice a 0 0, by simp [Instr.slice, r_und hT, bounds_run0 h1 h2 hl hh, r_size hn, Sem.run_bind], .emp _⟩
      · cases h
    · cases h
  · rename_i E id sz off len hT
    rw [slice_at hT rfl]
    cases hm.1 rfl
    cases hx with | sl _ _ _ _ b cap hρ hcap =>
    split at h
    · rename_i l h' h1 h2
      split at h
      · rename_i hc
        obtain ⟨c1, c2, c3, c4⟩ := hc
        cases h
        have e := bounds_run (P := P) (w := w) (isS := true) (cap := cap - off) h1 h2 hl hh c1 (by omega)
        have hz : Rel H ρ (.slice (some ⟨b, (off + l) * sz, none⟩) (h' - l) (cap - (off + l))) (.sl id sz (off + l) (h' - l)) := .sl id sz _ _ b cap hρ (by omega)
        refine ⟨_, ?_, hz⟩
        simp [Instr.slice, r_und hT, e, r_size c3, Sem.run_bind, add_addr]
        rcases c4 with rfl | c4
        · simp
        · rw [if_neg (by omega), Nat.add_mul]
          exact ⟨rfl, by omega⟩
      · cases h
    · cases h
  · rename_i E id sz off len k hT
    rw [slice_at hT rfl]
    obtain ⟨v, rfl, hv⟩ := hm.2 _ rfl
    cases hv
    cases hx with | sl _ _ _ _ b cap hρ hcap =>
    split at h
    · rename_i h1 h2
      split at h
      · rename_i hs
        cases h
        obtain ⟨n, hn⟩ := Option.isSome_iff_exists.1 hs
        exact ⟨.slice (some ⟨b, off * sz, none⟩) 0 0, by simp [Instr.slice, r_und hT, bounds_run0 h1 h2 hl hh, r_size hn, Sem.run_bind], .emp _⟩
      · cases h
    · cases h
  · rename_i E hT
    rw [slice_at hT rfl]
    cases hm.1 rfl
    cases hx with | nils =>
    split at h
    · rename_i h1 h2
      split at h
      · rename_i hs
        cases h
        obtain ⟨n, hn⟩ := Option.isSome_iff_exists.1 hs
        have e := bounds_run (P := P) (w := w) (isS := true) (cap := 0) h1 h2 hl hh (Nat.le_refl _) (Nat.le_refl _)
        exact ⟨.slice none 0 0, by simp [Instr.slice, r_und hT, e, r_size hn, Sem.run_bind], .emp _⟩
      · cases h
    · cases h
  · rename_i E k hT
    rw [slice_at hT rfl]
    obtain ⟨v, rfl, hv⟩ := hm.2 _ rfl
    cases hv
    cases hx with | nils =>
    split at h
    · rename_i h1 h2
      split at h
      · rename_i hs
        cases h
        obtain ⟨n, hn⟩ := Option.isSome_iff_exists.1 hs
        exact ⟨.slice none 0 0, by simp [Instr.slice, r_und hT, bounds_run0 h1 h2 hl hh, r_size hn, Sem.run_bind], .emp _⟩
      · cases h
    · cases h
  · rename_i E hT
    rw [slice_at hT rfl]
    cases hm.1 rfl
    cases hx with | emp a =>
    split at h
    · rename_i h1 h2
      split at h
      · rename_i hs
        cases h
        obtain ⟨n, hn⟩ := Option.isSome_iff_exists.1 hs
        have e := bounds_run (P := P) (w := w) (isS := true) (cap := 0) h1 h2 hl hh (Nat.le_refl _) (Nat.le_refl _)
        exact ⟨.slice a 0 0, by simp [Instr.slice, r_und hT, e, r_size hn, Sem.run_bind], .emp _⟩
      · cases h
    · cases h
  · rename_i E k hT
    rw [slice_at hT rfl]
    obtain ⟨v, rfl, hv⟩ := hm.2 _ rfl
    cases hv
    cases hx with | emp a =>
    split at h
    · rename_i h1 h2
      split at h
      · rename_i hs
        cases h
        obtain ⟨n, hn⟩ := Option.isSome_iff_exists.1 hs
        exact ⟨.slice a 0 0, by simp [Instr.slice, r_und hT, bounds_run0 h1 h2 hl hh, r_size hn, Sem.run_bind], .emp _⟩
      · cases h
    · cases h
  · cases h

theorem fold_size (off : Nat) : ∀ (xs : List Value) (k : Nat) (arr : Array Value), ((xs.zipIdx k).foldl (fun cs (p : Value × Nat) => cs.setIfInBounds (off + p.2) p.1) arr).size = arr.size := by
  intro xs
  induction xs with
  | nil => intro k arr; rfl
  | cons x xs ih => intro k arr; rw [List.zipIdx_cons, List.foldl_cons, ih]; simp
theorem fold_at (off : Nat) : ∀ (xs : List Value) (k : Nat) (arr : Array Value) (i : Nat), off + k + xs.length ≤ arr.size → ((xs.zipIdx k).foldl (fun cs (p : Value × Nat) => cs.setIfInBounds (off + p.2) p.1) arr)[i]? = if off + k ≤ i ∧ i < off + k + xs.length then xs[i - (off + k)]? else arr[i]? := by
  intro xs
  induction xs with
  | nil => intro k arr i _; simp; intro h1 h2; omega
  | cons x xs ih =>
    intro k arr i hle
    simp only [List.length_cons] at hle
    rw [List.zipIdx_cons, List.foldl_cons, ih (k + 1) _ i (by simp; omega)]
    simp only [List.length_cons]
    by_cases h1 : off + (k + 1) ≤ i ∧ i < off + (k + 1) + xs.length
    · rw [if_pos h1, if_pos (by omega)]
      rw [show i - (off + k) = (i - (off + (k + 1))) + 1 by omega, List.getElem?_cons_succ]
    · rw [if_neg h1]
      by_cases h2 : i = off + k
      · subst h2
        have hk : off + k < arr.size := by omega
        rw [if_pos (by omega), Nat.sub_self]
        simp [Array.getElem?_setIfInBounds, hk]
      · rw [if_neg (by omega), Array.getElem?_setIfInBounds, if_neg (by omega)]
theorem pfill_sound {P : Program} {place : Nat → Option (Nat × Nat)} {H : GH} {ρ : RM} : ∀ (ps : List (Nat × PV)) (us : List (Nat × Value)) (cs r : List PV) (arr : Array Value), pfill place cs ps = some r → us.length = ps.length → (∀ (i : Nat) p u, ps[i]? = some p → us[i]? = some u → u.1 = p.1 ∧ Rel H ρ u.2 p.2) → arr.size = cs.length → (∀ (i : Nat) v c, arr[i]? = some v → cs[i]? = some c → Rel H ρ v c) →
    ∃ arr', Instr.fill place arr us = some arr' ∧ arr'.size = r.length ∧ ∀ (i : Nat) v c, arr'[i]? = some v → r[i]? = some c → Rel H ρ v c := by
  intro ps
  induction ps with
  | nil =>
    intro us cs r arr h hl _ hs hr
    cases us with
    | nil => simp only [pfill] at h; cases h; exact ⟨arr, rfl, hs, hr⟩
    | cons => simp at hl
  | cons p ps ih =>
    intro us cs r arr h hl hu hs hr
    cases us with
    | nil => simp at hl
    | cons u us =>
      obtain ⟨pi, px⟩ := p
      obtain ⟨ui, uv⟩ := u
      obtain ⟨e1, hx⟩ := hu 0 _ _ rfl rfl
      simp only at e1 hx
      subst e1
      simp only [pfill] at h
      split at h
      · rename_i off n xs hp hxs
        split at h
        · rename_i hc
          obtain ⟨c1, c2⟩ := Rel.cells hx hxs
          unfold Instr.fill
          rw [hp]
          simp only
          rw [if_neg (by simp; omega)]
          refine ih us _ r _ h (by simpa using hl) (fun i p u h1 h2 => hu (i + 1) p u h1 h2) ?_ ?_
          · rw [← Array.foldl_toList, Array.toList_zipIdx]
            rw [show (fun (cs : Array Value) (x : Value × Nat) => match x with | (c, j) => cs.setIfInBounds (off + j) c) = (fun cs (p : Value × Nat) => cs.setIfInBounds (off + p.2) p.1) from rfl, fold_size]
            simp; omega
          · intro i v c hv hc'
            rw [← Array.foldl_toList, Array.toList_zipIdx] at hv
            rw [show (fun (cs : Array Value) (x : Value × Nat) => match x with | (c, j) => cs.setIfInBounds (off + j) c) = (fun cs (p : Value × Nat) => cs.setIfInBounds (off + p.2) p.1) from rfl, fold_at _ _ _ _ _ (by simp; omega)] at hv
            simp only [Array.length_toList, Nat.add_zero] at hv
            split at hv
            · rename_i hi
              rw [Array.getElem?_toList] at hv
              rw [List.append_assoc, List.getElem?_append_right (by simp; omega), List.getElem?_append_left (by simp; omega)] at hc'
              rw [List.length_take, Nat.min_eq_left (by omega)] at hc'
              exact c2 _ v c hv hc'
            · rename_i hi
              refine hr i v c hv ?_
              by_cases hlt : i < off
              · rw [List.append_assoc, List.getElem?_append_left (by simp; omega), List.getElem?_take_of_lt hlt] at hc'
                exact hc'
              · rw [List.getElem?_append_right (by simp; omega), List.getElem?_drop] at hc'
                rw [show off + n + (i - (cs.take off ++ xs).length) = i by simp; omega] at hc'
                exact hc'
        · cases h
      · cases h
theorem zeroP_run {P : Program} {T : TypeId} {z : List PV} {w : World} (h : zeroP P T = some z) : ∃ v, (zeroValue T).run P w = .ok v w ∧ v.cells.size = z.length ∧ ∀ H ρ (i : Nat) u c, v.cells[i]? = some u → z[i]? = some c → Rel H ρ u c := by
  unfold zeroP at h
  split at h
  · rename_i i hi
    obtain ⟨v, hv, rfl⟩ := Option.map_eq_some_iff.1 h
    refine ⟨v, by simp [zeroValue, typeInfo, hi, hv, go_sem], by simp, fun H ρ j u c hu hc => ?_⟩
    rw [List.getElem?_map, Array.getElem?_toList, hu] at hc
    cases hc
    exact ofConst_rel H ρ u
  · cases h
def plc (f : Field) : Sem (Nat × Nat) := do pure (f.offset, ← sizeOf f.type)
theorem plc_run {P : Program} {f : Field} {n : Nat} {w : World} (h : szT P f.type = some n) : (plc f).run P w = .ok (f.offset, n) w := by simp [plc, Sem.run_bind, r_size h]
theorem mapM_places {P : Program} {w : World} : ∀ (fs : List Field), (fs.all fun f => (szT P f.type).isSome) = true → ∃ l : List (Nat × Nat), (fs.mapM plc).run P w = .ok l w ∧ ∀ i : Nat, l[i]? = (fs[i]?).bind fun (f : Field) => (szT P f.type).map fun (n : Nat) => (f.offset, n) := by
  intro fs
  induction fs with
  | nil => intro _; exact ⟨[], by simp [go_sem], fun i => by simp⟩
  | cons f fs ih =>
    intro h
    simp only [List.all_cons, Bool.and_eq_true] at h
    obtain ⟨l, h1, h3⟩ := ih h.2
    obtain ⟨n, hn⟩ := Option.isSome_iff_exists.1 h.1
    refine ⟨(f.offset, n) :: l, ?_, fun i => ?_⟩
    · rw [List.mapM_cons]
      simp [Sem.run_bind, plc_run hn, h1]
    · cases i with
      | zero => simp [hn]
      | succ i => simp [h3]
theorem pbuild_sound {P : Program} {T : TypeId} {ps : List (Nat × PV)} {us : Array (Nat × Value)} {r : PV} {H : GH} {ρ : RM} {w : World} (h : pbuild P T ps = some r) (hl : us.size = ps.length) (hu : ∀ (i : Nat) p u, ps[i]? = some p → us[i]? = some u → u.1 = p.1 ∧ Rel H ρ u.2 p.2) :
    ∃ z, (Instr.build T us).run P w = .ok z w ∧ Rel H ρ z r := by
  unfold pbuild at h
  have hu' : ∀ (i : Nat) p u, ps[i]? = some p → us.toList[i]? = some u → u.1 = p.1 ∧ Rel H ρ u.2 p.2 := fun i p u h1 h2 => hu i p u h1 (by rw [← Array.getElem?_toList]; exact h2)
  split at h
  · rename_i fs z hT hz
    split at h
    · rename_i hall
      obtain ⟨cs, hcs, rfl⟩ := Option.map_eq_some_iff.1 h
      obtain ⟨v, h1, h2, h3⟩ := zeroP_run (w := w) hz
      obtain ⟨l, h4, h6⟩ := mapM_places (w := w) fs.toList (by rw [Array.all_toList]; exact hall)
      have hp : (fun i => (l.toArray)[i]?) = places P fs := by
        funext i
        simp only [List.getElem?_toArray, h6 i, Array.getElem?_toList, places]
        cases fs[i]? <;> rfl
      obtain ⟨arr', h7, h8, h9⟩ := pfill_sound (P := P) ps us.toList z cs v.cells hcs (by simpa using hl) hu' h2 (h3 H ρ)
      refine ⟨.agg arr', ?_, .agg _ _ h8 h9⟩
      rw [← hp] at h7
      have h4' : (fs.mapM plc).run P w = .ok l.toArray w := by
        rw [← Array.toArray_toList (xs := fs), List.mapM_toArray]
        simp [Sem.run_bind, h4]
      unfold Instr.build
      simp only [Sem.run_bind, h1, Result.andThen_ok, r_und hT]
      rw [show (fs.mapM fun f => do pure (f.offset, ← sizeOf f.type)) = fs.mapM plc from rfl, h4']
      have h7' : Instr.fill (fun x => l[x]?) v.cells us.toList = some arr' := by simpa using h7
      simp [h7']
    · cases h
  · rename_i m E z hT hz
    split at h
    · rename_i n hn
      obtain ⟨cs, hcs, rfl⟩ := Option.map_eq_some_iff.1 h
      obtain ⟨v, h1, h2, h3⟩ := zeroP_run (w := w) hz
      obtain ⟨arr', h7, h8, h9⟩ := pfill_sound (P := P) ps us.toList z cs v.cells hcs (by simpa using hl) hu' h2 (h3 H ρ)
      refine ⟨.agg arr', ?_, .agg _ _ h8 h9⟩
      simp [Instr.build, r_und hT, h1, r_size hn, Sem.run_bind, h7]
    · cases h
  · cases h

theorem relO {H : GH} {ρ : RM} {ev : Operand → Value} {pv : Operand → PV} (o : Option Operand) (h : ∀ x, o = some x → Rel H ρ (ev x) (pv x)) : RelO H ρ (o.map ev) (o.map pv) := by
  cases o with
  | none => exact ⟨fun _ => rfl, fun y e => by cases e⟩
  | some x => exact ⟨(fun e => by cases e), (fun y e => by cases e; exact ⟨_, rfl, h x rfl⟩)⟩
/-- **the machine does the same** -/
theorem popA_sound {P : Program} {pv : Operand → PV} {ev : Operand → Value} {o : Oper} {r : PV} {H : GH} {ρ : RM} {w : World} (h : popA P pv o.op = some r) (hr : ∀ x ∈ o.op.operands, Rel H ρ (ev x) (pv x)) :
    ∃ z, (execOp ev o).run P w = .ok (.value z) w ∧ Rel H ρ z r := by
  obtain ⟨dst, op, ty, pos, aft, gd⟩ := o
  simp only at h hr
  unfold popA at h
  split at h
  · cases h; exact ⟨_, by simp [execOp, go_sem], hr _ (by simp [Op.operands])⟩
  · cases h; exact ⟨_, by simp [execOp, go_sem], hr _ (by simp [Op.operands])⟩
  · rename_i c a b
    split at h
    · rename_i t ht
      cases h
      have hc := hr c (by simp [Op.operands])
      rw [ht] at hc
      generalize hu : ev c = u at hc
      cases hc
      refine ⟨if t then ev a else ev b, by simp [execOp, hu, go_sem], ?_⟩
      cases t
      · exact hr b (by simp [Op.operands])
      · exact hr a (by simp [Op.operands])
    · cases h
  · rename_i x
    have hx := hr x (by simp [Op.operands])
    generalize hu : ev x = u at hx
    split at h
    · rename_i e; rw [e] at hx; cases h; cases hx with | ptr _ _ b cap hρ => exact ⟨_, by simp [execOp, hu, go_sem], .ptr _ _ b cap hρ⟩
    · rename_i e; rw [e] at hx; cases h; cases hx with | cptr b o _ g hH hr => exact ⟨_, by simp [execOp, hu, go_sem], .cptr b o _ g hH hr⟩
    · rename_i e; rw [e] at hx; cases h; cases hx with | fn _ vs _ hl hr => exact ⟨_, by simp [execOp, hu, go_sem], .fn _ vs _ hl hr⟩
    · cases h
  · rename_i op T x y U
    obtain ⟨z, h1, h2⟩ := pbin_sound (w := w) h (hr x (by simp [Op.operands])) (hr y (by simp [Op.operands]))
    refine ⟨z, ?_, h2⟩
    simp only [execOp, Sem.run_bind, h1] at h1 ⊢
    simp [h1]
  · rename_i op T x
    obtain ⟨z, h1, h2⟩ := pun_sound (P := P) (w := w) h (hr x (by simp [Op.operands]))
    exact ⟨z, by simp [execOp, Sem.run_bind, h1], h2⟩
  · rename_i s t x
    obtain ⟨z, h1, h2⟩ := pconv_sound (w := w) h (hr x (by simp [Op.operands]))
    exact ⟨z, by simp [execOp, Sem.run_bind, h1], h2⟩
  · rename_i f first caps
    split at h
    · rename_i hz
      cases h
      have e : first = #[] := Array.eq_empty_of_size_eq_zero hz
      subst e
      refine ⟨.func (.func f) #[] (caps.map ev), by simp [execOp, Instr.makeFunc, go_sem], .fn _ _ _ (by simp) fun i v c hv hc => ?_⟩
      rw [Array.getElem?_map] at hv
      rw [List.getElem?_map, Array.getElem?_toList] at hc
      obtain ⟨x, hx, rfl⟩ := Option.map_eq_some_iff.1 hv
      rw [hx] at hc; cases hc
      exact hr x (by simp only [Op.operands, List.mem_append, Array.mem_append]; exact .inr (Array.mem_of_getElem? hx))
    · cases h
  · rename_i S x f
    obtain ⟨z, h1, h2⟩ := pfieldAddr_sound (w := w) h (hr x (by simp [Op.operands]))
    exact ⟨z, by simp [execOp, Sem.run_bind, h1], h2⟩
  · rename_i S x f
    obtain ⟨z, h1, h2⟩ := pfield_sound (w := w) h (hr x (by simp [Op.operands]))
    exact ⟨z, by simp [execOp, Sem.run_bind, h1], h2⟩
  · rename_i T x i
    obtain ⟨z, h1, h2⟩ := pidx_sound (w := w) h (hr x (by simp [Op.operands])) (hr i (by simp [Op.operands]))
    exact ⟨z, by simp [execOp, Sem.run_bind, h1], h2⟩
  · rename_i T x i
    obtain ⟨z, h1, h2⟩ := pindex_sound (w := w) h (hr x (by simp [Op.operands])) (hr i (by simp [Op.operands]))
    exact ⟨z, by simp [execOp, Sem.run_bind, h1], h2⟩
  · rename_i T x lo hi mx
    obtain ⟨z, h1, h2⟩ := pslice_sound (w := w) h (hr x (by simp [Op.operands]))
      (relO (ev := ev) lo fun y e => hr y (by subst e; simp [Op.operands]))
      (relO (ev := ev) hi fun y e => hr y (by subst e; simp [Op.operands]))
      (relO (ev := ev) mx fun y e => hr y (by subst e; simp [Op.operands]))
    exact ⟨z, by simp [execOp, Sem.run_bind, h1], h2⟩
  · rename_i x i
    have hx := hr x (by simp [Op.operands])
    generalize hu : ev x = u at hx
    split at h
    · rename_i vs e
      rw [e] at hx
      cases hx with | tup us _ hl hr' =>
      obtain ⟨v, hv⟩ : ∃ v, us[i]? = some v := ⟨_, Array.getElem?_eq_getElem (by have := (List.getElem?_eq_some_iff.1 h).1; omega)⟩
      exact ⟨v, by simp [execOp, Instr.extract, hu, hv, go_sem], hr' i v r hv h⟩
    · cases h
  · rename_i T parts
    obtain ⟨z, h1, h2⟩ := pbuild_sound (us := parts.map fun (i, x) => (i, ev x)) (H := H) (ρ := ρ) (w := w) h (by simp) (fun i p u hp hu => by
      rw [List.getElem?_map, Array.getElem?_toList] at hp
      rw [Array.getElem?_map] at hu
      obtain ⟨q, hq, rfl⟩ := Option.map_eq_some_iff.1 hp
      rw [hq] at hu; cases hu
      refine ⟨rfl, hr _ ?_⟩
      simp only [Op.operands]
      exact List.mem_toArray.2 (List.mem_map.2 ⟨q, Array.mem_toList_iff.2 (Array.mem_of_getElem? hq), rfl⟩))
    exact ⟨z, by simp [execOp, Sem.run_bind, h1], h2⟩
  · rename_i T x
    split at h
    · cases h
    · rename_i d hne hd
      cases h
      refine ⟨.iface T (ev x), ?_, .ifc _ _ _ (hr x (by simp [Op.operands]))⟩
      cases d <;> first | (exact (hne _ rfl).elim) | simp [execOp, Instr.makeInterface, r_und hd, Sem.run_bind]
    · cases h
  · rename_i args ts
    split at h
    · rename_i T x hT hx
      have hm : x ∈ args := Array.mem_of_getElem? hx
      obtain ⟨z, h1, h2⟩ := plen_sound (P := P) (ty := ty) (vs := args.map ev) (w := w) hT (by rw [Array.getElem?_map, hx]; rfl) h (hr x (by simp only [Op.operands, Call.operands]; simpa using hm))
      exact ⟨z, by simp [execOp, resolve, invoke, builtin, Sem.run_bind, h1], h2⟩
    · cases h
  · rename_i args ts
    split at h
    · rename_i x y hargs
      have e : args = #[x, y] := by rw [← Array.toArray_toList (xs := args), hargs]
      subst e
      have hx := hr x (by simp [Op.operands, Call.operands])
      have hy := hr y (by simp [Op.operands, Call.operands])
      generalize hu : ev x = u at hx
      generalize hv : ev y = v at hy
      unfold pminmax at h
      split at h
      · rename_i k a k' b e1 e2
        rw [e1] at hx; rw [e2] at hy
        cases hx; cases hy; cases h
        refine ⟨.int k (max a b), ?_, .int _ _⟩
        have hm : (if b > a then b else a) = max a b := by split <;> omega
        simp [execOp, resolve, invoke, builtin, Sem.run_bind, Builtin.max_, Builtin.max2, hu, hv, hm]
      · cases h
    · cases h
  · rename_i args ts
    split at h
    · rename_i x y hargs
      have e : args = #[x, y] := by rw [← Array.toArray_toList (xs := args), hargs]
      subst e
      have hx := hr x (by simp [Op.operands, Call.operands])
      have hy := hr y (by simp [Op.operands, Call.operands])
      generalize hu : ev x = u at hx
      generalize hv : ev y = v at hy
      unfold pminmax at h
      split at h
      · rename_i k a k' b e1 e2
        rw [e1] at hx; rw [e2] at hy
        cases hx; cases hy; cases h
        refine ⟨.int k (min a b), ?_, .int _ _⟩
        have hm : (if b < a then b else a) = min a b := by split <;> omega
        simp [execOp, resolve, invoke, builtin, Sem.run_bind, Builtin.min_, Builtin.min2, hu, hv, hm]
      · cases h
    · cases h
  · cases h
end Go.Proofs.YtfhojpnofmlkdaaDoor.Pv
