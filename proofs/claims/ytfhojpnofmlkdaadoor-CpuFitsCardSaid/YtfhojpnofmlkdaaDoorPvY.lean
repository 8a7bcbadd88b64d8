/- Loops by what they do; states that say less. -/
import Derived.Test.YtfhojpnofmlkdaaDoorPvW
namespace Go.Proofs.YtfhojpnofmlkdaaDoor.Pv
open Go.RowKit
set_option linter.unusedSimpArgs false
set_option linter.unusedVariables false
set_option maxHeartbeats 1000000

/-- q says no more than p, the boxes numbered anew -/
def VW (m : Nat → Option Nat) (hp : List Box) (p q : PV) : Prop := ∀ B H ρ ρ' w v, WR B H ρ w hp → (∀ i j, m i = some j → ρ' j = ρ i) → Rel H ρ v p → Rel H ρ' v q
theorem VW.any {m : Nat → Option Nat} {hp : List Box} (p : PV) : VW m hp p .any := fun _ _ _ _ _ v _ _ _ => .any v
theorem VW.bool {m : Nat → Option Nat} {hp : List Box} {b b' : Bool} (h : b = b') : VW m hp (.bool b) (.bool b') := fun _ _ _ _ _ _ _ _ h' => by subst h; cases h'; exact .bool _
theorem VW.int {m : Nat → Option Nat} {hp : List Box} {k : IntKind} {n n' : Int} (h : n = n') : VW m hp (.int k n) (.int k n') := fun _ _ _ _ _ _ _ _ h' => by subst h; cases h'; exact .int _ _
theorem VW.str {m : Nat → Option Nat} {hp : List Box} {s s' : ByteArray} (h : s = s') : VW m hp (.str s) (.str s') := fun _ _ _ _ _ _ _ _ h' => by subst h; cases h'; exact .str _
theorem VW.nils {m : Nat → Option Nat} {hp : List Box} : VW m hp .nils .nils := fun _ _ _ _ _ _ _ _ h' => by cases h'; exact .nils
theorem VW.emp {m : Nat → Option Nat} {hp : List Box} : VW m hp .emp .emp := fun _ _ _ _ _ _ _ _ h' => by cases h'; exact .emp _
theorem VW.nemp {m : Nat → Option Nat} {hp : List Box} : VW m hp .nils .emp := fun _ _ _ _ _ _ _ _ h' => by cases h'; exact .emp _
theorem VW.nl {m : Nat → Option Nat} {hp : List Box} (sz : Nat) {es : List PV} (h : es = []) : VW m hp .nils (.lst sz es) := fun _ _ _ _ _ _ _ _ h' => by subst h; exact rel_nils sz (by cases h'; exact .nils)
theorem VW.el {m : Nat → Option Nat} {hp : List Box} (sz : Nat) {es : List PV} (h : es = []) : VW m hp .emp (.lst sz es) := fun _ _ _ _ _ _ _ _ h' => by subst h; exact rel_emp sz (by cases h'; exact .emp _)
theorem VW.nilp {m : Nat → Option Nat} {hp : List Box} : VW m hp .nilp .nilp := fun _ _ _ _ _ _ _ _ h' => by cases h'; exact .nilp
theorem VW.nilfn {m : Nat → Option Nat} {hp : List Box} : VW m hp .nilfn .nilfn := fun _ _ _ _ _ _ _ _ h' => by cases h'; exact .nilfn
theorem VW.nilifc {m : Nat → Option Nat} {hp : List Box} : VW m hp .nilifc .nilifc := fun _ _ _ _ _ _ _ _ h' => by cases h'; exact .nilifc
theorem VW.lst {m : Nat → Option Nat} {hp : List Box} {sz sz' : Nat} {es es' : List PV} (h : sz = sz') (h' : es = es') : VW m hp (.lst sz es) (.lst sz' es') := fun _ _ _ _ _ _ _ _ k => by
  subst h; subst h'; cases k; exact .lst _ _ _ _ _ _ _ _ (by assumption) (by assumption) (by assumption) (by assumption) (by assumption)
theorem VW.cptr {m : Nat → Option Nat} {hp : List Box} {es es' : List PV} (h' : es = es') : VW m hp (.cptr es) (.cptr es') := fun _ _ _ _ _ _ _ _ k => by
  subst h'; cases k; exact .cptr _ _ _ _ (by assumption) (by assumption)
theorem VW.sl {m : Nat → Option Nat} {hp : List Box} {i j sz off len sz' off' len' : Nat} (h : m i = some j) (h1 : sz = sz') (h2 : off = off') (h3 : len = len') : VW m hp (.sl i sz off len) (.sl j sz' off' len') := fun _ _ _ _ _ _ hw hm k => by
  subst h1; subst h2; subst h3; cases k with | sl _ _ _ _ b cap hρ hc => exact .sl _ _ _ _ b cap (by rw [hm _ _ h]; exact hρ) hc
theorem VW.ptr {m : Nat → Option Nat} {hp : List Box} {i j off off' : Nat} (h : m i = some j) (h2 : off = off') : VW m hp (.ptr i off) (.ptr j off') := fun _ _ _ _ _ _ hw hm k => by
  subst h2; cases k with | ptr _ _ b cap hρ => exact .ptr _ _ b cap (by rw [hm _ _ h]; exact hρ)
theorem VW.own {m : Nat → Option Nat} {hp : List Box} {i j sz sz' : Nat} {es es' : List PV} (h : m i = some j) (h1 : sz = sz') (h2 : es = es') : VW m hp (.own i sz es) (.own j sz' es') := fun _ _ _ _ _ _ hw hm k => by
  subst h1 h2
  cases k with | own _ _ _ _ h3 h4 => exact .own _ _ _ _ h3 (h4.ren (hm _ _ h))
theorem VW.ol {m : Nat → Option Nat} {hp : List Box} {i sz sz' : Nat} {es es' : List PV} (h1 : sz = sz') (h2 : es = es') : VW m hp (.own i sz es) (.lst sz' es') := fun _ _ _ _ _ _ hw hm k => by
  subst h1 h2
  cases k with | own _ _ _ _ h3 h4 => exact h3.up
theorem VW.no {m : Nat → Option Nat} {hp : List Box} {j sz : Nat} {es : List PV} (h : es = []) : VW m hp .nils (.own j sz es) := fun _ _ _ _ _ _ _ _ k => by
  subst h
  cases k
  exact .own _ _ _ _ (rel_nils _ .nils) ⟨none, 0, 0, rfl, .inl rfl⟩
theorem VW.eo {m : Nat → Option Nat} {hp : List Box} {j sz : Nat} {es : List PV} (h : es = []) : VW m hp .emp (.own j sz es) := fun _ _ _ _ _ _ _ _ k => by
  subst h
  cases k with | emp a => exact .own _ _ _ _ (rel_emp _ (.emp a)) ⟨a, 0, 0, rfl, .inl rfl⟩
inductive VWL (m : Nat → Option Nat) (hp : List Box) : List PV → List PV → Prop
  | nil : VWL m hp [] []
  | cons {p q : PV} {ps qs : List PV} (h : VW m hp p q) (hs : VWL m hp ps qs) : VWL m hp (p :: ps) (q :: qs)
theorem VWL.rel {m : Nat → Option Nat} {hp : List Box} {B : Nat → Prop} {w : World} {H : GH} {ρ ρ' : RM} (hw : WR B H ρ w hp) (hm : ∀ i j, m i = some j → ρ' j = ρ i) {ps qs : List PV} (h : VWL m hp ps qs) : ps.length = qs.length ∧ ∀ (i : Nat) p q v, ps[i]? = some p → qs[i]? = some q → Rel H ρ v p → Rel H ρ' v q := by
  induction h with
  | nil => exact ⟨rfl, fun i p q v hp => by simp at hp⟩
  | cons h hs ih =>
    refine ⟨by simp [ih.1], fun i p q v hp hq hr => ?_⟩
    cases i with
    | zero => simp at hp hq; subst hp; subst hq; exact h _ _ _ _ _ _ hw hm hr
    | succ i => exact ih.2 i p q v (by simpa using hp) (by simpa using hq) hr
theorem VWL.at2 {m : Nat → Option Nat} {hp : List Box} {B : Nat → Prop} {w : World} {H : GH} {ρ ρ' : RM} (hw : WR B H ρ w hp) (hm : ∀ i j, m i = some j → ρ' j = ρ i) {ps qs : List PV} (h : VWL m hp ps qs) {vs : Array Value} (hl : vs.size = ps.length) (hr : ∀ (i : Nat) v c, vs[i]? = some v → ps[i]? = some c → Rel H ρ v c) : vs.size = qs.length ∧ ∀ (i : Nat) v c, vs[i]? = some v → qs[i]? = some c → Rel H ρ' v c := by
  obtain ⟨k1, k2⟩ := h.rel hw hm
  refine ⟨by omega, fun i v c hv hc => ?_⟩
  have hi : i < ps.length := by have := (List.getElem?_eq_some_iff.1 hc).1; omega
  exact k2 i _ c v (List.getElem?_eq_getElem hi) hc (hr i v _ hv (List.getElem?_eq_getElem hi))
theorem VW.agg {m : Nat → Option Nat} {hp : List Box} {ps qs : List PV} (h : VWL m hp ps qs) : VW m hp (.agg ps) (.agg qs) := fun _ _ _ _ _ _ hw hm k => by
  cases k with | agg vs _ hl hr => obtain ⟨k1, k2⟩ := h.at2 hw hm hl hr; exact .agg _ _ k1 k2
theorem VW.tup {m : Nat → Option Nat} {hp : List Box} {ps qs : List PV} (h : VWL m hp ps qs) : VW m hp (.tup ps) (.tup qs) := fun _ _ _ _ _ _ hw hm k => by
  cases k with | tup vs _ hl hr => obtain ⟨k1, k2⟩ := h.at2 hw hm hl hr; exact .tup _ _ k1 k2
theorem VW.fn {m : Nat → Option Nat} {hp : List Box} {f : Nat} {ps qs : List PV} (h : VWL m hp ps qs) : VW m hp (.fn f ps) (.fn f qs) := fun _ _ _ _ _ _ hw hm k => by
  cases k with | fn _ vs _ hl hr => obtain ⟨k1, k2⟩ := h.at2 hw hm hl hr; exact .fn _ _ _ k1 k2
theorem VW.ifc {m : Nat → Option Nat} {hp : List Box} {t : Nat} {p q : PV} (h : VW m hp p q) : VW m hp (.ifc t p) (.ifc t q) := fun _ _ _ _ _ _ hw hm k => by
  cases k with | ifc _ v _ hr => exact .ifc _ _ _ (h _ _ _ _ _ _ hw hm hr)
/-- no box in it -/
def NB (p : PV) : Prop := ∀ H ρ v, Rel H ρ v p → Rel H RM.nil v p
theorem NB.of {p : PV} (h : noBoxB deep p = true) : NB p := fun H ρ v hr => noBox_nil deep v p h hr
theorem VW.same {m : Nat → Option Nat} {hp : List Box} {p q : PV} (h : NB p) (e : p = q) : VW m hp p q := fun _ H ρ ρ' _ v _ _ hr => by subst e; exact (h H ρ v hr).up
theorem VW.nb {m : Nat → Option Nat} {hp : List Box} {p q : PV} (h : noBoxB deep p = true) (e : p = q) : VW m hp p q := .same (.of h) e
theorem NB.int (k : IntKind) (n : Int) : NB (.int k n) := .of rfl
theorem NB.bool (b : Bool) : NB (.bool b) := .of rfl
theorem NB.str (b : ByteArray) : NB (.str b) := .of rfl
theorem NB.lst (sz : Nat) (l : List PV) : NB (.lst sz l) := .of rfl
theorem NB.nils : NB .nils := .of rfl
/-- the box b' says no more than b -/
def BW (m : Nat → Option Nat) (hp : List Box) (b b' : Box) : Prop := b'.sz = b.sz ∧ b'.st = b.st ∧ b'.cells.length = b.cells.length ∧ ∀ (i : Nat) c c', b.cells[i]? = some c → b'.cells[i]? = some c' → VW m hp c c'
theorem BW.flat {m : Nat → Option Nat} {hp : List Box} {sz st : Nat} {cs cs' : List PV} (h : cs = cs') (hn : ∀ c ∈ cs', NB c) : BW m hp ⟨sz, cs, st⟩ ⟨sz, cs', st⟩ := by
  subst h
  exact ⟨rfl, rfl, rfl, fun i c c' hc hc' => by rw [hc] at hc'; cases hc'; exact .same (hn _ (List.mem_of_getElem? hc)) rfl⟩
theorem VWL.length {m : Nat → Option Nat} {hp : List Box} {ps qs : List PV} (h : VWL m hp ps qs) : ps.length = qs.length := by induction h <;> simp_all
theorem VWL.at {m : Nat → Option Nat} {hp : List Box} {ps qs : List PV} (h : VWL m hp ps qs) : ∀ (i : Nat) p q, ps[i]? = some p → qs[i]? = some q → VW m hp p q := by
  induction h with
  | nil => intro i p q hp; simp at hp
  | cons h hs ih =>
    intro i p q hp hq
    cases i with
    | zero => simp at hp hq; subst hp; subst hq; exact h
    | succ i => exact ih i p q (by simpa using hp) (by simpa using hq)
theorem BW.cells {m : Nat → Option Nat} {hp : List Box} {sz st : Nat} {cs cs' : List PV} (h : VWL m hp cs cs') : BW m hp ⟨sz, cs, st⟩ ⟨sz, cs', st⟩ := ⟨rfl, rfl, h.length.symm, fun i c c' hc hc' => h.at i c c' hc hc'⟩
theorem BW.tik {m : Nat → Option Nat} {hp : List Box} {sz sz' n n' : Nat} (h : sz = sz') (h' : n = n') : BW m hp (tik sz n) (tik sz' n') := by
  subst h h'
  exact BW.flat rfl (fun c hc => by rw [List.eq_of_mem_replicate hc]; exact fun _ _ v _ => .any v)
/-- a slice of a box that nobody writes any more -/
theorem VW.frz {m : Nat → Option Nat} {hp : List Box} {j sz len : Nat} {cells es : List PV} (hj : hp[j]? = some ⟨sz, cells, 1⟩) (hz : 0 < sz) (hl : len * sz ≤ cells.length) (he : es = chunk sz len cells) : VW m hp (.sl j sz 0 len) (.lst sz es) := fun B H ρ ρ' w v hw hm hr => by
  subst he
  cases hr with | sl _ _ _ _ b cap hρ hc =>
  obtain ⟨hB, arr, T, a1, a2, a3, a4, a5, a6⟩ := hw.box _ _ _ _ hj (by simp) hρ
  have := chunk_rel (H := H) (ρ := ρ') (sz := sz) (len := len) (off := 0) (b := b) (cap := cap) (cs := cells) (vs := fun _ => none) hz (by simpa using hl) (fun q c hc => by
    obtain ⟨v, l1, l2, l3⟩ := (a6 (.inl rfl)).2 q c hc
    exact ⟨v, l2, l3⟩) (by omega)
  simpa using this
/-- these boxes are written no more -/
def frz : List Nat → List Box → List Box
  | [], hp => hp
  | j :: js, hp => frz js (match decide (1000000 ≤ j) with | true => hp ++ [tik (j - 1000000) 0] | false => match hp[j]? with | some bx => hp.set j ⟨bx.sz, bx.cells, 1⟩ | none => hp)
def frzOk : List Nat → List Box → Prop
  | [], _ => True
  | j :: js, hp => match decide (1000000 ≤ j) with | true => frzOk js (hp ++ [tik (j - 1000000) 0]) | false => match hp[j]? with | some bx => (bx.st = 0 ∧ 0 < bx.sz ∧ bx.cells.length % bx.sz = 0 ∧ ∀ c ∈ bx.cells, NB c) ∧ frzOk js (hp.set j ⟨bx.sz, bx.cells, 1⟩) | none => False
def wkS (m : Nat → Option Nat) (hp : List Box) (ts : TS) : List (Nat × PV) → Prop
  | [] => True
  | (t, v) :: l => VW m hp (getT ts t) v ∧ wkS m hp ts l
def BIG : Nat := 1000000
def wkB (m : Nat → Option Nat) (hp : List Box) : List Nat → List Box → Prop
  | [], [] => True
  | i :: ids, b :: bs => (match decide (BIG ≤ i) with | true => b.st = 2 | false => match hp[i]? with | some b0 => BW m hp b0 b | none => False) ∧ wkB m hp ids bs
  | _, _ => False
/-- the first boxes stay where they are; BIG + i: the box i is dead there -/
def preB : Nat → Nat → List Nat → Bool
  | _, 0, _ => true
  | i, n + 1, k :: ks => (k == i && decide (k < BIG) || k == i + BIG) && preB (i + 1) n ks
  | _, _, [] => false
def idxL (k : List Nat) (i : Nat) : Option Nat := match decide (i < BIG) with | true => idx k i | false => none
def nodupB : List Nat → Bool
  | [] => true
  | i :: l => !l.contains i && nodupB l
/-- hd says no more than s: the boxes ids of s are the boxes of hd -/
def Wk (n0 : Nat) (js ids : List Nat) (s hd : PS) : Prop := (nodupB ids && preB 0 n0 ids && s.tmps.n == hd.tmps.n) = true ∧ frzOk js s.hp ∧ wkS (idxL ids) (frz js s.hp) s.tmps hd.tmps.l ∧ wkB (idxL ids) (frz js s.hp) ids hd.hp
theorem nodupB_sound : ∀ l, nodupB l = true → l.Nodup
  | [], _ => List.nodup_nil
  | i :: l, h => by
    simp only [nodupB, Bool.and_eq_true, Bool.not_eq_true', List.contains_eq_mem, decide_eq_false_iff_not] at h
    exact List.nodup_cons.2 ⟨h.1, nodupB_sound l h.2⟩
theorem preB_sound : ∀ (n i : Nat) (l : List Nat), preB i n l = true → ∀ j, j < n → (l[j]? = some (i + j) ∧ i + j < BIG) ∨ l[j]? = some (i + j + BIG)
  | 0, _, _, _, j, hj => by omega
  | n + 1, i, [], h, _, _ => by simp [preB] at h
  | n + 1, i, k :: ks, h, j, hj => by
    simp only [preB, Bool.and_eq_true, Bool.or_eq_true, beq_iff_eq] at h
    cases j with
    | zero =>
      rcases h.1 with ⟨h1, h2⟩ | h1
      · exact .inl ⟨by simp [h1], by have := of_decide_eq_true h2; omega⟩
      · exact .inr (by simp [h1])
    | succ j =>
      rcases preB_sound n (i + 1) ks h.2 j (by omega) with ⟨h1, h2⟩ | h1
      · exact .inl ⟨by simp [h1]; omega, by omega⟩
      · exact .inr (by simp [h1]; omega)
theorem wkB_at {m : Nat → Option Nat} {hp : List Box} : ∀ {ids : List Nat} {bs : List Box}, wkB m hp ids bs → ids.length = bs.length ∧ ∀ (j : Nat) b, bs[j]? = some b → ∃ i, ids[j]? = some i ∧ ((BIG ≤ i ∧ b.st = 2) ∨ (i < BIG ∧ ∃ b0, hp[i]? = some b0 ∧ BW m hp b0 b))
  | [], [], _ => ⟨rfl, fun j b h => by simp at h⟩
  | i :: ids, b :: bs, h => by
    obtain ⟨h1, h2⟩ := h
    obtain ⟨k1, k2⟩ := wkB_at h2
    refine ⟨by simp [k1], fun j b' hb => ?_⟩
    cases j with
    | zero =>
      simp at hb; subst hb
      refine ⟨i, rfl, ?_⟩
      split at h1
      · rename_i e; exact .inl ⟨of_decide_eq_true e, h1⟩
      · rename_i e
        have hi : i < BIG := Nat.lt_of_not_le (of_decide_eq_false e)
        split at h1
        · rename_i b0 e'; exact .inr ⟨hi, b0, e', h1⟩
        · exact h1.elim
    | succ j => exact k2 j b' (by simpa using hb)
  | [], b :: bs, h => h.elim
  | i :: ids, [], h => h.elim
def pkv (big : Nat) (ρ : RM) : RM := fun k => if k < big then ρ k else ρ (k - big)
theorem pkv_lo {big i : Nat} {ρ : RM} (h : i < big) : pkv big ρ i = ρ i := if_pos h
theorem pkv_hi (big i : Nat) (ρ : RM) : pkv big ρ (i + big) = ρ i := by
  unfold pkv
  rw [if_neg (by omega), Nat.add_sub_cancel]
theorem idxL_some {k : List Nat} {i j : Nat} (h : idxL k i = some j) : k[j]? = some i ∧ i < BIG := by
  unfold idxL at h
  split at h
  · rename_i e; exact ⟨idx_some h, of_decide_eq_true e⟩
  · cases h
theorem wk_rel1 {G : Nat → List PV} {n big : Nat} {B : Nat → Prop} {H : GH} {ρ : RM} {w : World} {a : Act} {s hd : PS} {ids : List Nat} {m : Nat → Option Nat} (h : StR G B H ρ w a s) (hmi : ∀ i j, m i = some j → ids[j]? = some i ∧ i < big) (hnd : ids.Nodup) (hpre : ∀ j, j < n → (ids[j]? = some j ∧ j < big) ∨ ids[j]? = some (j + big)) (h03 : s.tmps.n = hd.tmps.n) (hS : wkS m s.hp s.tmps hd.tmps.l)
    (hlen : ids.length = hd.hp.length) (hbx : ∀ (j : Nat) b, hd.hp[j]? = some b → ∃ i, ids[j]? = some i ∧ ((big ≤ i ∧ b.st = 2) ∨ (i < big ∧ ∃ b0, s.hp[i]? = some b0 ∧ BW m s.hp b0 b))) :
    ∃ ρ', StR G B H ρ' w a hd ∧ ∀ i x, i < n → ρ i = some x → ρ' i = some x := by
  let ρ' : RM := fun j => (ids[j]?).bind (pkv big ρ)
  have hlo : ∀ j i, ids[j]? = some i → i < big → ρ' j = ρ i := fun j i e hi => by simp only [ρ', e, Option.bind_some]; exact pkv_lo hi
  have hhi : ∀ j i, ids[j]? = some (i + big) → ρ' j = ρ i := fun j i e => by simp only [ρ', e, Option.bind_some]; exact pkv_hi big i ρ
  have hm : ∀ i j, m i = some j → ρ' j = ρ i := fun i j hj => hlo j i (hmi i j hj).1 (hmi i j hj).2
  refine ⟨ρ', ⟨⟨h.wr.sub, h.wr.base, fun j bx b cap h1 h2 h3 => ?_, fun j j' bx bx' b c c' h1 h2 h3 h4 h5 h6 => ?_⟩, ⟨fun j bx h1 h2 => ?_, fun j hj => ?_⟩, h.gr, h.df, by rw [h.sz]; exact h03, fun t => ?_⟩, fun i x hi hx => ?_⟩
  · obtain ⟨i, e1, ⟨_, e2⟩ | ⟨hi, b0, e2, e3, e4, e5, e6⟩⟩ := hbx j bx h1
    · exact absurd e2 h2
    have h3' : ρ i = some (b, cap) := by rw [← hlo j i e1 hi]; exact h3
    obtain ⟨hBb, arr, T, a1, a2, a3, a4, a5, a6⟩ := h.wr.box i b0 b cap e2 (by omega) h3'
    have back : ∀ (q : Nat) c, bx.cells[q]? = some c → ∃ c0, b0.cells[q]? = some c0 ∧ VW m s.hp c0 c := fun q c hc => by
      have hq : q < b0.cells.length := by have := (List.getElem?_eq_some_iff.1 hc).1; omega
      exact ⟨_, List.getElem?_eq_getElem hq, e6 q _ c (List.getElem?_eq_getElem hq) hc⟩
    refine ⟨hBb, arr, T, a1, by rw [e3]; exact a2, by omega, fun q v c hv hc => ?_, fun e => a5 (by omega), fun e => ?_⟩
    · obtain ⟨c0, k1, k2⟩ := back q c hc
      exact k2 _ _ _ _ _ _ h.wr hm (a4 q v c0 hv k1)
    · obtain ⟨m1, m2⟩ := a6 (by omega)
      refine ⟨fun o ho => m1 o (by omega), fun q c hc => ?_⟩
      obtain ⟨c0, k1, k2⟩ := back q c hc
      obtain ⟨v, l1, l2, l3⟩ := m2 q c0 k1
      exact ⟨v, l1, l2, k2 B H RM.nil RM.nil w v ⟨h.wr.sub, h.wr.base, (fun _ _ _ _ _ _ h3 => by cases h3), (fun _ _ _ _ _ _ _ _ _ _ _ h5 => by cases h5)⟩ (fun _ _ _ => rfl) l3⟩
  · obtain ⟨i, e1, ⟨_, e2⟩ | ⟨hi, b0, e2, e3, e4, _⟩⟩ := hbx j bx h1
    · exact absurd e2 h3
    obtain ⟨i', e1', ⟨_, e2'⟩ | ⟨hi', b0', e2', e3', e4', _⟩⟩ := hbx j' bx' h2
    · exact absurd e2' h4
    have h5' : ρ i = some (b, c) := by rw [← hlo j i e1 hi]; exact h5
    have h6' : ρ i' = some (b, c') := by rw [← hlo j' i' e1' hi']; exact h6
    have e := h.wr.inj i i' b0 b0' b c c' e2 e2' (by omega) (by omega) h5' h6'
    subst e
    exact (List.getElem?_inj (List.getElem?_eq_some_iff.1 e1).1 hnd).1 (e1.trans e1'.symm)
  · obtain ⟨i, e1, ⟨_, e2⟩ | ⟨hi, b0, e2, e3, e4, _⟩⟩ := hbx j bx h1
    · omega
    obtain ⟨x, hx⟩ := h.sq.tot i b0 e2 (by omega)
    exact ⟨x, by rw [hlo j i e1 hi]; exact hx⟩
  · simp only [ρ', List.getElem?_eq_none (show ids.length ≤ j by omega), Option.bind_none]
  · have key : ∀ l : List (Nat × PV), wkS m s.hp s.tmps l → Rel H ρ' (a.tmps.getD t undef) (lk l t) := by
      intro l
      induction l with
      | nil => intro _; exact .any _
      | cons x l ih =>
        intro hl
        obtain ⟨x1, x2⟩ := x
        simp only [lk]
        split
        · rename_i e; subst e; exact hl.1 _ _ _ _ _ _ h.wr hm (h.tm _)
        · exact ih hl.2
    exact key _ hS
  · rcases hpre i hi with ⟨e, hl⟩ | e
    · rw [hlo i i e hl]; exact hx
    · rw [hhi i i e]; exact hx
theorem wk_rel0 {G : Nat → List PV} {n : Nat} {B : Nat → Prop} {H : GH} {ρ : RM} {w : World} {a : Act} {s hd : PS} {ids : List Nat} (h : StR G B H ρ w a s) (hk : (nodupB ids && preB 0 n ids && s.tmps.n == hd.tmps.n) = true ∧ wkS (idxL ids) s.hp s.tmps hd.tmps.l ∧ wkB (idxL ids) s.hp ids hd.hp) :
    ∃ ρ', StR G B H ρ' w a hd ∧ ∀ i x, i < n → ρ i = some x → ρ' i = some x := by
  obtain ⟨h0, hS, hB⟩ := hk
  simp only [Bool.and_eq_true, beq_iff_eq] at h0
  obtain ⟨⟨h01, h02⟩, h03⟩ := h0
  have hpre := preB_sound _ _ _ h02
  obtain ⟨hlen, hbx⟩ := wkB_at hB
  exact wk_rel1 h (fun i j => idxL_some) (nodupB_sound _ h01) (fun j hj => by have := hpre j hj; rwa [Nat.zero_add] at this) h03 hS hlen hbx
theorem freeze_box {B : Nat → Prop} {H : GH} {ρ : RM} {w : World} {hp : List Box} {j sz b cap : Nat} {cells : List PV} (hw : WR B H ρ w hp) (hbx : hp[j]? = some ⟨sz, cells, 0⟩) (hρ : ρ j = some (b, cap)) (hnb : ∀ c ∈ cells, NB c) : ∃ H', Kn B H ρ w hp H' (hp.set j ⟨sz, cells, 1⟩) := by
  obtain ⟨hB, arr, T, a1, a2, a3, a4, a5, _⟩ := hw.box _ _ _ _ hbx (by simp) hρ
  simp only at a2 a3 a4 a5
  have a5 := a5 trivial
  let H2 : GH := fun b' o => if b' = b then (if o < cells.length then arr[o]? else none) else H b' o
  have hle : H.le H2 := fun b' o v hv => by
    by_cases e : b' = b
    · subst e; rw [a5 o] at hv; cases hv
    · simp only [H2, if_neg e]; exact hv
  have r2 : ∀ (i : Nat) c, cells[i]? = some c → ∃ v, arr[i]? = some v ∧ H2 b i = some v ∧ Rel H2 RM.nil v c := fun i c hc => by
    have hi := (List.getElem?_eq_some_iff.1 hc).1
    have hi2 : i < arr.size := by omega
    refine ⟨arr[i], Array.getElem?_eq_getElem hi2, ?_, ?_⟩
    · simp only [H2, if_true, if_pos hi]; exact Array.getElem?_eq_getElem hi2
    · exact (hnb c (List.mem_of_getElem? hc) _ _ _ (a4 i _ c (Array.getElem?_eq_getElem hi2) hc)).mono hle (.refl _)
  have hoth : ∀ b' o v, b' ≠ b → H2 b' o = some v → H b' o = some v := fun b' o v e hv => by simpa only [H2, if_neg e] using hv
  refine ⟨H2, ⟨hle, fun b' o v hb hv => ?_, ⟨fun b' o v hv => ?_, hw.base, fun i bi c cc q1 q2 q3 => ?_, fun i j' bi bj c c1' c2' q1 q2 q3 q4 q5 q6 => ?_⟩, by rw [List.length_set], fun i bi q1 => ?_⟩⟩
  · exact hoth b' o v (fun e => hB (e ▸ hb)) hv
  · by_cases e : b' = b
    · subst e
      simp only [H2, if_true] at hv
      split at hv
      · rw [heap_cell a1]; exact hv
      · cases hv
    · exact hw.sub _ _ _ (hoth b' o v e hv)
  · rcases ext_set q1 with ⟨rfl, rfl, _⟩ | ⟨hne, q1⟩
    · rw [hρ] at q3; cases q3
      refine ⟨hB, arr, T, a1, a2, a3, fun j v c hv hc => ?_, (fun e => by cases e), fun _ => ⟨fun o ho => ?_, r2⟩⟩
      · obtain ⟨v', k1, _, k3⟩ := r2 j c hc
        rw [hv] at k1; cases k1
        exact k3.up
      · simp only [H2, if_true]
        exact if_neg (by have ho2 : cells.length ≤ o := ho; omega)
    · obtain ⟨hB', hb'⟩ := hw.box _ _ _ _ q1 q2 q3
      have hcb : c ≠ b := by rintro rfl; exact hne (hw.inj _ _ _ _ _ _ _ q1 hbx q2 (by simp) q3 hρ)
      exact ⟨hB', hb'.keep rfl hle (.refl _) (fun o v hv => hoth c o v hcb hv)⟩
  · have ex : ∀ (k' : Nat) (bk : Box), (hp.set j ⟨sz, cells, 1⟩)[k']? = some bk → bk.st ≠ 2 → ∃ bk' : Box, hp[k']? = some bk' ∧ bk'.st ≠ 2 := fun k' bk e1 e2 => by
      rcases ext_set e1 with ⟨rfl, rfl, _⟩ | ⟨_, e1⟩
      · exact ⟨_, hbx, by simp⟩
      · exact ⟨bk, e1, e2⟩
    obtain ⟨_, e1, e2⟩ := ex _ _ q1 q3
    obtain ⟨_, e3, e4⟩ := ex _ _ q2 q4
    exact hw.inj _ _ _ _ _ _ _ e1 e3 e2 e4 q5 q6
  · rcases ext_set q1 with ⟨rfl, rfl, _⟩ | ⟨_, q1⟩
    · exact ⟨_, hbx, by simp⟩
    · exact ⟨bi, q1, Nat.le_refl _⟩
theorem frz_rel {G : Nat → List PV} {B : Nat → Prop} {ρ : RM} {w : World} {a : Act} : ∀ (js : List Nat) {H : GH} {s : PS}, StR G B H ρ w a s → frzOk js s.hp → ∃ H', H.le H' ∧ (∀ b o v, B b → H' b o = some v → H b o = some v) ∧ StR G B H' ρ w a ⟨s.tmps, frz js s.hp⟩
  | [], H, s, h, _ => ⟨H, .refl _, fun _ _ _ _ h => h, h⟩
  | j :: js, H, s, h, hk => by
    unfold frzOk at hk
    unfold frz
    cases hd : decide (1000000 ≤ j) with
    | true =>
    rw [hd] at hk
    simp only at hk ⊢
    have hq := h.sq.fresh _ (Nat.le_refl _)
    exact frz_rel js (s := ⟨s.tmps, s.hp ++ [tik (j - 1000000) 0]⟩) ⟨h.wr.more _ hq, h.sq.fr _ (by simp [tik]) ρ (fun _ _ => rfl), h.gr, h.df, h.sz, h.tm⟩ hk
    | false =>
    rw [hd] at hk
    simp only at hk ⊢
    split at hk
    · rename_i bx hbx
      obtain ⟨⟨h1, h2, h3, h4⟩, hk⟩ := hk
      try simp only [hbx]
      obtain ⟨sz, cells, st⟩ := bx
      simp only at h1 h2 h3 h4 hk
      subst h1
      obtain ⟨⟨b, cap⟩, hρ⟩ := h.sq.tot j _ hbx (by simp)
      obtain ⟨hB, arr, T, a1, a2, a3, a4, _⟩ := h.wr.box j _ b cap hbx (by simp) hρ
      simp only at a2 a3
      have hlen : cells.length / sz * sz = cells.length := by rw [Nat.mul_comm]; have := Nat.div_add_mod cells.length sz; omega
      have hcap : cells.length / sz ≤ cap := by
        have : cells.length / sz * sz ≤ cap * sz := by omega
        exact Nat.le_of_mul_le_mul_right this h2
      have hv : Rel H ρ (.slice (some ⟨b, 0 * sz, none⟩) (cells.length / sz) (cap - 0)) (.sl j sz 0 (cells.length / sz)) := .sl j sz 0 _ b cap hρ (by omega)
      -- what is there becomes known
      have hbox := h.wr.box j _ b cap hbx (by simp) hρ
      obtain ⟨H', k1⟩ := freeze_box h.wr hbx hρ h4
      have h' : StR G B H' ρ w a ⟨s.tmps, s.hp.set j ⟨sz, cells, 1⟩⟩ := ⟨k1.wr, h.sq.kn k1, h.gr.mono k1.hH, h.df, h.sz, fun t => (h.tm t).mono k1.hH (.refl _)⟩
      obtain ⟨H'', l1, l2, l3⟩ := frz_rel js h' hk
      exact ⟨H'', k1.hH.trans l1, fun b o v hb hv => k1.old b o v hb (l2 b o v hb hv), l3⟩
    · exact hk.elim
theorem wk_rel {G : Nat → List PV} {n : Nat} {B : Nat → Prop} {H : GH} {ρ : RM} {w : World} {a : Act} {s hd : PS} {js ids : List Nat} (h : StR G B H ρ w a s) (hk : Wk n js ids s hd) :
    ∃ H' ρ', StR G B H' ρ' w a hd ∧ Stp n B H ρ w H' ρ' w := by
  obtain ⟨h0, h1, h2, h3⟩ := hk
  obtain ⟨H', k1, k2, k3⟩ := frz_rel js h h1
  obtain ⟨ρ', l1, l2⟩ := wk_rel0 (hd := hd) k3 ⟨h0, h2, h3⟩
  exact ⟨H', ρ', l1, k1, l2, k2, .refl _ _⟩
/-- at the head of a loop -/
def HeadWp (P : Program) (c : Code) (Q : Exit → Act → World → Prop) (a : Act) (w : World) : Prop :=
  ∀ b k cs, ∃ e a' w', Q e a' w' ∧ Arrives P (lone (b.at a (.code c :: .inLoop c :: k)) cs w) b k cs e a' w'
theorem HeadWp.loop {P : Program} {c : Code} {Q : Exit → Act → World → Prop} {a : Act} {w : World} (h : HeadWp P c Q a w) : (Code.loop c).wp P Q a w := by
  intro b k cs
  obtain ⟨e, a', w', hq, harr⟩ := h b k cs
  exact ⟨e, a', w', hq, .of_steps (.one step_loop) harr⟩
theorem HeadWp.round {P : Program} {c : Code} {Q : Exit → Act → World → Prop} {a : Act} {w : World} (h : c.wp P (Exit.then (HeadWp P c Q) Q) a w) : HeadWp P c Q a w := by
  intro b k cs
  obtain ⟨e, a₁, w₁, hq, harr⟩ := h b (.inLoop c :: k) cs
  cases e with
  | normal =>
    obtain ⟨e₂, a₂, w₂, hq₂, harr₂⟩ := hq b k cs
    exact ⟨e₂, a₂, w₂, hq₂, .of_steps (Steps.trans harr (.one step_inLoop)) harr₂⟩
  | exit id => exact ⟨_, a₁, w₁, hq, .pass (x := .inLoop c) rfl (fun _ _ => .inl (by simp)) harr⟩
  | goto l => exact ⟨_, a₁, w₁, hq, .pass (x := .inLoop c) rfl (fun _ _ => .inl (by simp)) harr⟩
  | ret => exact ⟨_, a₁, w₁, hq, .pass (x := .inLoop c) rfl (fun _ _ => .inl (by simp)) harr⟩
  | panic ch => exact ⟨_, a₁, w₁, hq, .pass (x := .inLoop c) rfl (fun _ _ => .inl (by simp)) harr⟩
  | outgrown => exact ⟨_, a₁, w₁, hq, .pass (x := .inLoop c) rfl (fun _ _ => .inl (by simp)) harr⟩
/-- the loop with this body, from the head hd, ends so -/
def LoopOk (P : Program) (G : Nat → List PV) (n0 : Nat) (b : Code) (hd : PS) (e : PE) (s' : PS) : Prop :=
  ∀ (B : Nat → Prop) (Q : Exit → Act → World → Prop) (H : GH) (ρ : RM) (w : World) (a : Act), StR G B H ρ w a hd → (∀ a' w' H' ρ', Stp n0 B H ρ w H' ρ' w' → StR G B H' ρ' w' a' s' → Q e.ex a' w') → HeadWp P b Q a w
theorem wk_stp {n : Nat} {B : Nat → Prop} {H : GH} {ρ ρ' : RM} {w : World} (h : ∀ i x, i < n → ρ i = some x → ρ' i = some x) : Stp n B H ρ w H ρ' w := ⟨.refl _, h, fun _ _ _ _ h => h, .refl _ _⟩
theorem LoopOk.elim {P : Program} {G : Nat → List PV} {n0 : Nat} {b : Code} {hd : PS} {e : PE} {s' : PS} (h : LoopOk P G n0 b hd e s') : ∀ (B : Nat → Prop) (Q : Exit → Act → World → Prop) (H : GH) (ρ : RM) (w : World) (a : Act), StR G B H ρ w a hd → (∀ a' w' H' ρ', Stp n0 B H ρ w H' ρ' w' → StR G B H' ρ' w' a' s' → Q e.ex a' w') → HeadWp P b Q a w := h
/-- is the operation a comparison of a list with nil? the list, and what the answer is where it is nil -/
def nilCmp (P : Program) (ev : Operand → PV) : Op → Option (List PV × Bool)
  | .binOp .eql T x (.const (.slice none 0 0)) _ => match P.underlying T, ev x with | some (.slice _), .lst _ es => some (es, true) | _, _ => none
  | .binOp .neq T x (.const (.slice none 0 0)) _ => match P.underlying T, ev x with | some (.slice _), .lst _ es => some (es, false) | _, _ => none
  | _ => none
theorem nilCmp_sound {P : Program} {pv : Operand → PV} {ev : Operand → Value} {o : Oper} {es : List PV} {b : Bool} {H : GH} {ρ : RM} {w : World} (h : nilCmp P pv o.op = some (es, b)) (hr : ∀ x ∈ o.op.operands, Rel H ρ (ev x) (pv x)) (hc : ∀ v, ev (.const v) = v) :
    ∃ r : Bool, (execOp ev o).run P w = .ok (.value (.bool r)) w ∧ (r = b → es = []) := by
  obtain ⟨dst, op, ty, pos, aft, gd⟩ := o
  simp only at h hr
  unfold nilCmp at h
  split at h
  · rename_i T x yT
    split at h
    · rename_i E sz l hT hx
      cases h
      have h1 := hr x (by simp [Op.operands])
      rw [hx] at h1
      generalize hu : ev x = u at h1
      cases h1 with | lst a cap sz es b o g ec hcap ha =>
      refine ⟨a.isNone, ?_, fun e => ?_⟩
      · obtain ⟨m, hm⟩ : ∃ m, Op.maxDepth = m + 2 := ⟨9998, rfl⟩
        have h1 : (eqGuard .eql T x (.const (.slice none 0 0)) (.slice a es.length cap) (.slice none 0 0)).run P w = .ok () w := by simp [eqGuard, go_sem]
        have h2 : (Op.equal T (.slice a es.length cap) (.slice none 0 0)).run P w = .ok a.isNone w := by
          unfold Op.equal; rw [hm]; cases a <;> simp [Op.equalIn, r_und hT, go_sem]
        have h3 : (binOp .eql T (.slice a es.length cap) (.slice none 0 0)).run P w = .ok (.bool a.isNone) w := by simp [binOp, h2, go_sem]
        have h4 := bin_run h1 h3
        simp only [execOp, Sem.run_bind, hu, hc, h4] at h4 ⊢
        simp [h4]
      · cases es with
        | nil => rfl
        | cons x l => rw [ha (by simp)] at e; cases e
    · cases h
  · rename_i T x yT
    split at h
    · rename_i E sz l hT hx
      cases h
      have h1 := hr x (by simp [Op.operands])
      rw [hx] at h1
      generalize hu : ev x = u at h1
      cases h1 with | lst a cap sz es b o g ec hcap ha =>
      refine ⟨!a.isNone, ?_, fun e => ?_⟩
      · obtain ⟨m, hm⟩ : ∃ m, Op.maxDepth = m + 2 := ⟨9998, rfl⟩
        have h1 : (eqGuard .neq T x (.const (.slice none 0 0)) (.slice a es.length cap) (.slice none 0 0)).run P w = .ok () w := by simp [eqGuard, go_sem]
        have h2 : (Op.equal T (.slice a es.length cap) (.slice none 0 0)).run P w = .ok a.isNone w := by
          unfold Op.equal; rw [hm]; cases a <;> simp [Op.equalIn, r_und hT, go_sem]
        have h3 : (binOp .neq T (.slice a es.length cap) (.slice none 0 0)).run P w = .ok (.bool !a.isNone) w := by simp [binOp, h2, go_sem]
        have h4 := bin_run h1 h3
        simp only [execOp, Sem.run_bind, hu, hc, h4] at h4 ⊢
        simp [h4]
      · cases es with
        | nil => rfl
        | cons x l => rw [ha (by simp)] at e; cases e
    · cases h
  · cases h
/-- a region in the text's order; a comparison with nil may go either way -/
def gseqW {α : Type} (P : Program) (G : Nat → List PV) (pp : PP) (ops : Array Oper) : List Oper → PS → Gd → (PS → Gd → TT α) → TT α
  | [], s, g, k => k s g
  | o :: rest, s, g, k =>
    match nilCmp P (evP G s.tmps) o.op with
    | none => gseq G pp ops [o] s g fun s g => gseqW P G pp ops rest s g k
    | some (es, b) =>
      match g with
      | .z g1 g2 =>
        match pwant ops s.tmps o with
        | some true => .both es (gseqW P G pp ops rest ⟨putT s.tmps o.dst (.bool b), s.hp⟩ g1 k) (gseqW P G pp ops rest ⟨putT s.tmps o.dst (.bool !b), s.hp⟩ g2 k)
        | _ => .fail
      | .x =>
        match pwant ops s.tmps o with
        | some true => .pendz es (gseqW P G pp ops rest ⟨putT s.tmps o.dst (.bool b), s.hp⟩ .x k) (gseqW P G pp ops rest ⟨putT s.tmps o.dst (.bool !b), s.hp⟩ .x k) (gseq G pp ops [o] s .x fun s g => gseqW P G pp ops rest s g k)
        | _ => gseq G pp ops [o] s .x fun s g => gseqW P G pp ops rest s g k
      | g => gseq G pp ops [o] s g fun s g => gseqW P G pp ops rest s g k
theorem gseqW_sound {α : Type} {Qt : α → Prop} {P : Program} {G : Nat → List PV} {C : Orc} (hC : OrcOk P G C) {n : Nat} {B : Nat → Prop} {ops : Array Oper} {Q : Exit → Act → World → Prop} : ∀ (l : List Oper) (s : PS) (g : Gd) (k : PS → Gd → TT α) (H : GH) (ρ : RM) (w : World) (a : Act), Holds Qt (gseqW P G (popS P C) ops l s g k) → StR G B H ρ w a s →
    (∀ s' g' a' w' H' ρ', Holds Qt (k s' g') → Stp n B H ρ w H' ρ' w' → StR G B H' ρ' w' a' s' → Q .normal a' w') → wpList P ops Q l a w := by
  intro l
  induction l with
  | nil => intro s g k H ρ w a ht h hK; exact hK s g a w H ρ ht (.refl _ _ _ _ _) h
  | cons o l ih =>
    intro s g k H ρ w a ht h hK
    have plain : ∀ g, Holds Qt (gseq G (popS P C) ops [o] s g fun s g => gseqW P G (popS P C) ops l s g k) → wpList P ops Q (o :: l) a w := fun g ht => by
      obtain ⟨s1, g1, h1, h2⟩ := gseq_sound _ _ _ _ _ _ _ ht
      unfold pseqP at h1
      unfold wpList
      split at h1
      · rename_i hw
        rw [if_pos (pwant_sound hw h.tm)]
        refine .inl ?_
        split at h1
        · rename_i v hp1 h3
          simp only [pseqP] at h1
          cases h1
          refine pop_sound hC h.wr h.sq h.gr (fun x _ => ev_rel h.gr h.tm x) h3 fun z w' H' ρ' k1 k2 k3 k4 => ?_
          exact ih _ g1 k H' ρ' w' _ h2 (h.go k1 k2 k3 k4) fun s' g' a' w'' H'' ρ'' m0 m1 m2 => hK s' g' a' w'' H'' ρ'' m0 (k1.stp.trans m1) m2
        · cases h1
      · rename_i hw
        rw [if_neg (by rw [pwant_sound hw h.tm]; decide)]
        simp only [pseqP] at h1
        cases h1
        exact ih _ g1 k H ρ w _ h2 (h.go (.refl _ _ _ _) h.wr h.sq undef_rel) hK
      · cases h1
    unfold gseqW at ht
    split at ht
    · exact plain _ ht
    · rename_i es b hn
      split at ht
      · rename_i g1 g2
        split at ht
        · rename_i hw
          obtain ⟨t1, t2⟩ := ht
          unfold wpList
          rw [if_pos (pwant_sound hw h.tm)]
          obtain ⟨r, e1, e2⟩ := nilCmp_sound (w := w) (ev := a.eval) hn (fun x _ => ev_rel h.gr h.tm x) (fun v => rfl)
          refine .inl (upon_ok e1 ?_)
          have hgo : ∀ r', Rel H ρ (.bool r') (.bool r') := fun r' => .bool _
          by_cases e : r = b
          · subst e
            exact ih _ g1 k H ρ w _ (t1 (e2 rfl)) (h.go (.refl _ _ _ _) h.wr h.sq (hgo r)) hK
          · have : r = !b := by cases r <;> cases b <;> simp_all
            subst this
            exact ih _ g2 k H ρ w _ t2 (h.go (.refl _ _ _ _) h.wr h.sq (hgo _)) hK
        · exact ht.elim
      · split at ht
        · exact ht.elim
        · exact plain _ ht
      · exact plain _ ht
def witer {α : Type} (b : PS → Gd → (PE → PS → Gd → TT α) → TT α) : Nat → PS → Gd → (PE → PS → Gd → TT α) → TT α
  | 0, _, _, _ => .fail
  | m + 1, s, g, k => b s g fun e s g => match e with | .normal => witer b m s g k | e => k e s g
def loopW {α : Type} (P : Program) (G : Nat → List PV) (n0 : Nat) (b : Code) (s : PS) (k : PE → PS → Gd → TT α) : Gd → TT α
  | .k js ids hd e s' g => .sem (Wk n0 js ids s hd) (.sem (LoopOk P G n0 b hd e s') (k e s' g))
  | .c t g1 g2 => .ask t (loopW P G n0 b s k g1) (loopW P G n0 b s k g2)
  | _ => .fail
/-- a region whose order is drawn -/
def regW {α : Type} (P : Program) (G : Nat → List PV) (C : Orc) (id : Nat) (ops : Array Oper) (s : PS) (g : Gd) (k : PS → Gd → TT α) : TT α :=
  match anyRo C.hs ops.toList with
  | false => gseq G (popD P (C.wu [])) ops ops.toList s g k
  | true =>
    match g with
    | .f U g => match U.all (fun q => decide (q.2 < s.hp.length)) with | true => gseqU P G (C.wu U) ops 0 ops.toList s g k | false => .fail
    | .x => .pendq (300000 + id) s fun g' => match g' with
      | .f U _ => (match U.all (fun q => decide (q.2 < s.hp.length)) with | true => gseqU P G (C.wu U) ops 0 ops.toList s .x k | false => .fail)
      | _ => gseq G (popD P (C.wu [])) ops ops.toList s .x k
    | g => gseq G (popD P (C.wu [])) ops ops.toList s g k
theorem regW_sound {α : Type} {Q : α → Prop} {P : Program} {G : Nat → List PV} {C : Orc} {id : Nat} {ops : Array Oper} {s : PS} {g : Gd} {k : PS → Gd → TT α} (h : Holds Q (regW P G C id ops s g k)) :
    ∃ (U : List (Nat × Nat)) (s' : PS) (g' : Gd), (∀ q ∈ U, q.2 < s.hp.length) ∧ pseqD P G (C.wu U) ops ops.toList s = some s' ∧ Unt P G (C.wu U) ops 0 ops.toList s ∧ Holds Q (k s' g') := by
  have old : ∀ g, Holds Q (gseq G (popD P (C.wu [])) ops ops.toList s g k) → ∃ (U : List (Nat × Nat)) (s' : PS) (g' : Gd), (∀ q ∈ U, q.2 < s.hp.length) ∧ pseqD P G (C.wu U) ops ops.toList s = some s' ∧ Unt P G (C.wu U) ops 0 ops.toList s ∧ Holds Q (k s' g') := fun g h => by
    obtain ⟨s', g', h1, h2⟩ := gseq_sound G _ ops _ _ _ _ h
    rw [pseqP_popD] at h1
    exact ⟨[], s', g', fun q hi => by simp at hi, h1, unt_nil rfl _ _ _, h2⟩
  unfold regW at h
  split at h
  · exact old _ h
  · split at h
    · rename_i U g0
      split at h
      · rename_i hc
        obtain ⟨s', g', h1, h2, h3⟩ := gseqU_sound P G _ ops _ _ _ _ _ h
        exact ⟨U, s', g', fun id hi => of_decide_eq_true (List.all_eq_true.1 hc id hi), h1, h2, h3⟩
      · exact h.elim
    · exact h.elim
    · exact old _ h
def wcode {α : Type} (P : Program) (X : Cfg) (C : Orc) (n0 fu : Nat) : Code → PS → Gd → (PE → PS → Gd → TT α) → TT α
  | .skip, s, g, k => k .normal s g
  | .region id ops draw, s, g, k =>
    match draw with
    | true => regW P X.G C id ops s g fun s g => k .normal s g
    | false => gseqW P X.G (popS P C) ops ops.toList s g fun s g => k .normal s g
  | .seq x y, s, g, k => wcode P X C n0 fu x s g fun e s g => match e with | .normal => wcode P X C n0 fu y s g k | e => k e s g
  | .cond c x y, s, g, k =>
    match evP X.G s.tmps c with
    | .bool t => match t with | true => wcode P X C n0 fu x s g k | false => wcode P X C n0 fu y s g k
    | _ => .fail
  | .block id b, s, g, k => wcode P X C n0 fu b s g fun e s g =>
      match e with
      | .exit i => if i = id then k .normal s g else k (.exit i) s g
      | .normal => k .normal s g
      | .ret => k .ret s g
  | .loop b, s, g, k =>
    match g with
    | .u g => witer (fun s g k => wcode P X C n0 fu b s g k) fu s g k
    | .x => .pendq (200000 + fr b) s fun g => match g with | .u _ => witer (fun s g k => wcode P X C n0 fu b s g k) fu s .x k | g => loopW P X.G n0 b s k g
    | g => loopW P X.G n0 b s k g
  | .exit id, s, g, k => k (.exit id) s g
  | .ret, s, g, k => k .ret s g
  | _, _, _, _ => .fail
def PE.isN : PE → Bool | .normal => true | _ => false
/-- what follows -/
def Post {α : Type} (G : Nat → List PV) (n0 : Nat) (B : Nat → Prop) (Qt : α → Prop) (Q : Exit → Act → World → Prop) (k : PE → PS → Gd → TT α) (H : GH) (ρ : RM) (w : World) : Prop :=
  ∀ e s' g' a' w' H' ρ', Holds Qt (k e s' g') → Stp n0 B H ρ w H' ρ' w' → StR G B H' ρ' w' a' s' → Q e.ex a' w'
theorem loopW_sound {α : Type} {Qt : α → Prop} {P : Program} {G : Nat → List PV} {n0 : Nat} {B : Nat → Prop} {b : Code} {Q : Exit → Act → World → Prop} {k : PE → PS → Gd → TT α} {H : GH} {ρ : RM} {w : World} {a : Act} {s : PS} (h : StR G B H ρ w a s) (hK : Post G n0 B Qt Q k H ρ w) : ∀ (g : Gd), Holds Qt (loopW P G n0 b s k g) → (Code.loop b).wp P Q a w := by
  intro g
  induction g with
  | k js ids hd e s' g ih =>
    intro ht
    obtain ⟨h1, h2, h3⟩ := ht
    obtain ⟨H1, ρ', k1, k2⟩ := wk_rel h h1
    exact HeadWp.loop (h2 B Q H1 ρ' w a k1 fun a' w' H' ρ'' m1 m2 => hK e s' g a' w' H' ρ'' h3 (k2.trans m1) m2)
  | c t g1 g2 ih1 ih2 =>
    intro ht
    cases t
    · exact ih2 (ht.2 rfl)
    · exact ih1 (ht.1 rfl)
  | _ => intro ht; exact ht.elim
theorem wcode_sound {α : Type} {Qt : α → Prop} {P : Program} {X : Cfg} {C : Orc} (hm : P.follows .mixedOrders = true) (hC : OrcOk P X.G C) {n0 fu : Nat} {B : Nat → Prop} : ∀ (c : Code), drAll C.hs c = true → ∀ (Q : Exit → Act → World → Prop) (s : PS) (g : Gd) (k : PE → PS → Gd → TT α) (H : GH) (ρ : RM) (w : World) (a : Act),
    Holds Qt (wcode P X C n0 fu c s g k) → StR X.G B H ρ w a s → Post X.G n0 B Qt Q k H ρ w → c.wp P Q a w := by
  intro c
  induction c with
  | skip => intro hdr Q s g k H ρ w a ht h hK; exact wp_skip (hK .normal s g a w H ρ ht (.refl _ _ _ _ _) h)
  | region id ops draw =>
    intro hdr Q s g k H ρ w a ht h hK
    unfold wcode at ht
    cases draw with
    | false =>
      exact wp_region_list (gseqW_sound hC _ s g _ H ρ w a ht h fun s' g' a' w' H' ρ' h2 m1 m2 => hK .normal s' g' a' w' H' ρ' h2 m1 m2)
    | true =>
      obtain ⟨U, s', g', h0, h1, h3, h2⟩ := regW_sound ht
      exact draw_sound (C := C.wu U) hm (hC.wu U) (show drOk C.hs _ = true by simpa [drAll] using hdr) h h1 h0 h3 fun a' w' H' ρ' m1 m2 => hK .normal s' g' a' w' H' ρ' h2 m1 m2
  | seq x y ihx ihy =>
    intro hdr Q s g k H ρ w a ht h hK
    simp only [drAll, Bool.and_eq_true] at hdr
    unfold wcode at ht
    refine wp_seq (ihx hdr.1 _ s g _ H ρ w a ht h fun e s' g' a' w' H' ρ' h1 m1 m2 => ?_)
    cases e with
    | normal => exact ihy hdr.2 Q s' g' k H' ρ' w' a' h1 m2 fun e s'' g'' a'' w'' H'' ρ'' h2 m3 m4 => hK e s'' g'' a'' w'' H'' ρ'' h2 (m1.trans m3) m4
    | ret => exact hK .ret s' g' a' w' H' ρ' h1 m1 m2
    | exit i => exact hK (.exit i) s' g' a' w' H' ρ' h1 m1 m2
  | cond c x y ihx ihy =>
    intro hdr Q s g k H ρ w a ht h hK
    simp only [drAll, Bool.and_eq_true] at hdr
    unfold wcode at ht
    split at ht
    · rename_i t et
      have hx := ev_rel h.gr h.tm c
      rw [et] at hx
      generalize hu : a.eval c = u at hx
      cases hx
      refine wp_cond hu ?_
      cases t
      · exact ihy hdr.2 Q s g k H ρ w a ht h hK
      · exact ihx hdr.1 Q s g k H ρ w a ht h hK
    · exact ht.elim
  | block id b ih =>
    intro hdr Q s g k H ρ w a ht h hK
    unfold wcode at ht
    refine wp_block (ih hdr _ s g _ H ρ w a ht h fun e s' g' a' w' H' ρ' h1 m1 m2 => ?_)
    cases e with
    | normal => exact hK .normal s' g' a' w' H' ρ' h1 m1 m2
    | ret => exact hK .ret s' g' a' w' H' ρ' h1 m1 m2
    | exit i =>
      show if i = id then Q .normal a' w' else Q (.exit i) a' w'
      simp only at h1
      split at h1
      · rename_i e1; rw [if_pos e1]; exact hK .normal s' g' a' w' H' ρ' h1 m1 m2
      · rename_i e1; rw [if_neg e1]; exact hK (.exit i) s' g' a' w' H' ρ' h1 m1 m2
  | loop b ih =>
    intro hdr Q s g k H ρ w a ht h hK
    unfold wcode at ht
    split at ht
    · rename_i g0
      have key : ∀ (m : Nat) (s : PS) (g : Gd) (H : GH) (ρ : RM) (w : World) (a : Act), Holds Qt (witer (fun s g k => wcode P X C n0 fu b s g k) m s g k) → StR X.G B H ρ w a s → Post X.G n0 B Qt Q k H ρ w → HeadWp P b Q a w := by
        intro m
        induction m with
        | zero => intro s g H ρ w a ht _ _; exact ht.elim
        | succ m ihm =>
          intro s g H ρ w a ht h hK
          unfold witer at ht
          refine HeadWp.round (ih hdr _ s g _ H ρ w a ht h fun e s' g' a' w' H' ρ' h1 m1 m2 => by
          cases e with
          | normal => exact ihm s' g' H' ρ' w' a' h1 m2 fun e s'' g'' a'' w'' H'' ρ'' h2 m3 m4 => hK e s'' g'' a'' w'' H'' ρ'' h2 (m1.trans m3) m4
          | ret => exact hK .ret s' g' a' w' H' ρ' h1 m1 m2
          | exit i => exact hK (.exit i) s' g' a' w' H' ρ' h1 m1 m2)
      exact HeadWp.loop (key fu s g0 H ρ w a ht h hK)
    · exact ht.elim
    · exact loopW_sound h hK _ ht
  | exit id => intro hdr Q s g k H ρ w a ht h hK; exact wp_exit (hK (.exit id) s g a w H ρ ht (.refl _ _ _ _ _) h)
  | ret => intro hdr Q s g k H ρ w a ht h hK; exact wp_ret (hK .ret s g a w H ρ ht (.refl _ _ _ _ _) h)
  | _ => intro hdr Q s g k H ρ w a ht h hK; exact ht.elim
def leafW (n0 : Nat) (e : PE) (s : PS) : Gd → TT (PE × PS)
  | .k js ids hd e' s' _ => match e with | .normal => .sem (Wk n0 js ids s hd) (.done (.normal, hd)) | e => .sem (e = e') (.sem (Wk n0 js ids s s') (.done (e', s')))
  | .c t g1 g2 => .ask t (leafW n0 e s g1) (leafW n0 e s g2)
  | _ => .fail
/-- one round -/
def wround (P : Program) (X : Cfg) (C : Orc) (n0 fu : Nat) (b : Code) (hd : PS) (g : Gd) : TT (PE × PS) := wcode P X C n0 fu b hd g fun e s g => match g with | .x => .pendq (100000 + ek e) s (leafW n0 e s) | g => leafW n0 e s g
/-- after a round: the loop goes on from another head, or ends -/
def Next (P : Program) (G : Nat → List PV) (n0 : Nat) (b : Code) (e : PE) (s' : PS) (x : PE × PS) : Prop :=
  match x.1 with
  | .normal => LoopOk P G n0 b x.2 e s'
  | e1 => e1 = e ∧ x.2 = s'
theorem leafW_sound {P : Program} {G : Nat → List PV} {n0 : Nat} {B : Nat → Prop} {b : Code} {e e1 : PE} {s' s1 : PS} {Q : Exit → Act → World → Prop} {H : GH} {ρ : RM} {w : World} {a : Act} (h : StR G B H ρ w a s1) (hK : ∀ a' w' H' ρ', Stp n0 B H ρ w H' ρ' w' → StR G B H' ρ' w' a' s' → Q e.ex a' w') :
    ∀ g : Gd, Holds (Next P G n0 b e s') (leafW n0 e1 s1 g) → Exit.then (HeadWp P b Q) Q e1.ex a w := by
  intro g
  induction g with
  | k js ids hd e' s2 g ih =>
    intro ht
    cases e1 with
    | normal =>
      obtain ⟨k1, k2⟩ := ht
      obtain ⟨H1, ρ'', k3, k4⟩ := wk_rel h k1
      exact LoopOk.elim k2 B Q H1 ρ'' w a k3 fun a'' w'' H'' ρ3 l1 l2 => hK a'' w'' H'' ρ3 (k4.trans l1) l2
    | ret =>
      obtain ⟨rfl, k1, rfl, rfl⟩ := ht
      obtain ⟨H1, ρ'', k3, k4⟩ := wk_rel h k1
      exact hK a w H1 ρ'' k4 k3
    | exit i =>
      obtain ⟨rfl, k1, rfl, rfl⟩ := ht
      obtain ⟨H1, ρ'', k3, k4⟩ := wk_rel h k1
      exact hK a w H1 ρ'' k4 k3
  | c t g1 g2 ih1 ih2 =>
    intro ht
    cases t
    · exact ih2 (ht.2 rfl)
    · exact ih1 (ht.1 rfl)
  | _ => intro ht; exact ht.elim
theorem round_ok {P : Program} {X : Cfg} {C : Orc} {n0 fu : Nat} {b : Code} {hd : PS} {g : Gd} {e : PE} {s' : PS} {t : TT (PE × PS)} (hm : P.follows .mixedOrders = true) (hC : OrcOk P X.G C) (hdr : drAll C.hs b = true) (ht : wround P X C n0 fu b hd g = t)
    (h : Holds (Next P X.G n0 b e s') t) : LoopOk P X.G n0 b hd e s' := by
  subst ht
  intro B Q H ρ w a hst hK
  refine HeadWp.round (wcode_sound hm hC b hdr _ hd g _ H ρ w a h hst fun e1 s1 g1 a' w' H' ρ' h1 m1 m2 => ?_)
  split at h1
  · exact h1.elim
  · exact leafW_sound m2 (fun a'' w'' H'' ρ'' l1 l2 => hK a'' w'' H'' ρ'' (m1.trans l1) l2) _ h1
def runI {α : Type} (st : Nat → α → α ⊕ (PE × PS)) (D : α → PE × PS) : Nat → Nat → α → PE × PS
  | 0, _, a => D a
  | k + 1, i, a => match st i a with | .inl a' => runI st D k (i + 1) a' | .inr e => e
/-- a loop that counts -/
theorem loop_idx {α : Type} {P : Program} {G : Nat → List PV} {n0 : Nat} {b : Code} (S : Nat → α → PS) (st : Nat → α → α ⊕ (PE × PS)) (D : α → PE × PS) (m : Nat) (Inv : Nat → α → Prop)
    (hs : ∀ i a, i < m → Inv i a → match st i a with | .inl a' => Inv (i + 1) a' ∧ ∀ e s', LoopOk P G n0 b (S (i + 1) a') e s' → LoopOk P G n0 b (S i a) e s' | .inr x => LoopOk P G n0 b (S i a) x.1 x.2)
    (he : ∀ a, Inv m a → LoopOk P G n0 b (S m a) (D a).1 (D a).2) :
    ∀ k i a, i + k = m → Inv i a → LoopOk P G n0 b (S i a) (runI st D k i a).1 (runI st D k i a).2 := by
  intro k
  induction k with
  | zero =>
    intro i a hi ha
    obtain rfl : i = m := by omega
    exact he a ha
  | succ k ih =>
    intro i a hi ha
    have h := hs i a (by omega) ha
    unfold runI
    cases hst : st i a with
    | inl a' => rw [hst] at h; exact h.2 _ _ (ih (i + 1) a' (by omega) h.1)
    | inr e => rw [hst] at h; exact h
/-- a function, read -/
def wfun {α : Type} (P : Program) (X : Cfg) (C : Orc) (f fu : Nat) (fn : Func) (as : List PV) (hp : List Box) (g : Gd) (k : PV → List Box → TT α) : TT α :=
  match fn.body with
  | some c =>
    match decide (fn.ntmps < as.length) with
    | true => .fail
    | false => wcode P X C hp.length fu c ⟨start fn.ntmps as, hp⟩ g fun e s _ =>
      match e with
      | .exit _ => .fail
      | .normal => match presults P fn s with | some r => k r s.hp | none => .fail
      | .ret => match presults P fn s with | some r => k r s.hp | none => .fail
  | none => .fail
def wsh (P : Program) (X : Cfg) (C : Orc) (f fu : Nat) (fn : Func) (as : List PV) (hp : List Box) (g : Gd) : TT (PV × List Box) := wfun P X C f fu fn as hp g fun r hp' => .done (r, hp')
/-- what is left of a call's boxes says no more -/
def Res (G : Nat → List PV) (n0 : Nat) (r : PV) (hp : List Box) (x : PV × List Box) : Prop := ∃ js ids, Wk n0 js ids ⟨⟨1, [(0, x.1)]⟩, x.2⟩ ⟨⟨1, [(0, r)]⟩, hp⟩
theorem wk_val {G : Nat → List PV} {n : Nat} {B : Nat → Prop} {H : GH} {ρ : RM} {w : World} {v : Value} {r r' : PV} {hp hp' : List Box} {js ids : List Nat} (h : WR B H ρ w hp') (hq : SQ ρ hp') (hg : GRel H G) (hv : Rel H ρ v r') (hk : Wk n js ids ⟨⟨1, [(0, r')]⟩, hp'⟩ ⟨⟨1, [(0, r)]⟩, hp⟩) :
    ∃ H' ρ', WR B H' ρ' w hp ∧ SQ ρ' hp ∧ Rel H' ρ' v r ∧ Stp n B H ρ w H' ρ' w := by
  have h0 : StR G B H ρ w { tmps := #[v], defers := [] } ⟨⟨1, [(0, r')]⟩, hp'⟩ := ⟨h, hq, hg, rfl, rfl, fun t => by
    cases t with
    | zero => exact hv
    | succ t => exact .any _⟩
  obtain ⟨H', ρ', k1, k2⟩ := wk_rel h0 hk
  exact ⟨H', ρ', k1.wr, k1.sq, by have := k1.tm 0; simpa [getT, lk] using this, k2⟩
theorem wfun_ok {P : Program} {X : Cfg} {C : Orc} {f fu : Nat} {fn : Func} {as : List PV} {hp hp' : List Box} {g : Gd} {r : PV} {t : TT (PV × List Box)} (hE : EnvOk P X) (hC : OrcOk P X.G C) (hfn : fnd P X f = some fn)
    (ht : wsh P X C f fu fn as hp g = t) (h : Holds (Res X.G hp.length r hp') t) (hh : C.hs = X.hs := by first | rfl | exact ownS_hs) : Sh P X.G f as hp r hp' := by
  subst ht
  have hf := (fnd_some hfn).2
  have hfb := hE.fns _ _ (fnd_some hfn).1 hf
  unfold fnB at hfb
  simp only [Bool.and_eq_true, Bool.not_eq_true'] at hfb
  obtain ⟨hnm, hdr0⟩ := hfb
  unfold wsh wfun at h
  split at h
  · rename_i c hc
    split at h
    · exact h.elim
    · rename_i hd
      have hnt : ¬ fn.ntmps < as.length := by simpa using hd
      have hdr : drAll C.hs c = true := by simp only [hc] at hdr0; rw [hh]; exact hdr0
      refine ⟨⟨fn, hf, by rw [hc]; rfl, hnm⟩, fun B H ρ w vs hw hq hg ha => ?_⟩
      obtain ⟨s1, s2⟩ := start_rel (n := fn.ntmps) ha (by omega)
      have h0 : StR X.G B H ρ w { tmps := vs ++ Array.replicate (fn.ntmps - vs.size) undef, defers := [] } ⟨start fn.ntmps as, hp⟩ := ⟨hw, hq, hg, rfl, s1, s2⟩
      have fin : ∀ (a' : Act) (w' : World) (H' : GH) (ρ' : RM) (s : PS) (r0 : PV), Stp hp.length B H ρ w H' ρ' w' → StR X.G B H' ρ' w' a' s → presults P fn s = some r0 → Res X.G hp.length r hp' (r0, s.hp) → a'.defers = [] ∧ ∃ v, (results fn a'.tmps).run P w' = .ok v w' ∧ ∃ z H'' ρ'', Ending.returned v = .returned z ∧ Step B H ρ w H'' ρ'' w' ∧ WR B H'' ρ'' w' hp' ∧ SQ ρ'' hp' ∧ Rel H'' ρ'' z r := fun a' w' H' ρ' s r0 k1 k2 k3 k4 => by
        obtain ⟨z, z1, z2⟩ := presults_sound k2 k3
        obtain ⟨js, ids, k4⟩ := k4
        obtain ⟨H2, ρ2, l1, l2, l3, l4⟩ := wk_val k2.wr k2.sq k2.gr z2 k4
        refine ⟨k2.df, z, z1, z, H2, ρ2, rfl, ⟨(k1.trans l4).hH, fun i x hx => ?_, (k1.trans l4).old, k1.bel⟩, l1, l2, l3⟩
        have hi : i < hp.length := by
          rcases Nat.lt_or_ge i hp.length with hl | hl
          · exact hl
          · rw [hq.fresh i hl] at hx; cases hx
        exact (k1.trans l4).hρ i x hi hx
      refine calls_of_wp hf hc ?_
      refine wcode_sound hE.mixed hC c hdr _ _ g _ H ρ w _ h h0 fun e s g' a' w' H' ρ' h1 m1 m2 => ?_
      cases e with
      | exit i => exact h1.elim
      | normal =>
        simp only at h1
        split at h1
        · rename_i r0 k2; exact fin a' w' H' ρ' s r0 m1 m2 k2 h1
        · exact h1.elim
      | ret =>
        simp only at h1
        split at h1
        · rename_i r0 k2; exact fin a' w' H' ρ' s r0 m1 m2 k2 h1
        · exact h1.elim
  · exact h.elim
/-- **a function, read with plain values** -/
theorem wok {P : Program} {X : Cfg} {C : Orc} {f fu : Nat} {fn : Func} {as : List PV} {g : Gd} {r : PV} {t : TT (PV × List Box)} (hE : EnvOk P X) (hC : OrcOk P X.G C) (hfn : fnd P X f = some fn)
    (ht : wsh P X C f fu fn as [] g = t) (h : Holds (fun x => Fz x.2 x.1 r) t) (hh : C.hs = X.hs := by first | rfl | exact ownS_hs) : Ok P X.G f as r := by
  subst ht
  have hf := (fnd_some hfn).2
  have hfb := hE.fns _ _ (fnd_some hfn).1 hf
  unfold fnB at hfb
  simp only [Bool.and_eq_true, Bool.not_eq_true'] at hfb
  obtain ⟨hnm, hdr0⟩ := hfb
  unfold wsh wfun at h
  split at h
  · rename_i c hc
    split at h
    · exact h.elim
    · rename_i hd
      have hnt : ¬ fn.ntmps < as.length := by simpa using hd
      have hdr : drAll C.hs c = true := by simp only [hc] at hdr0; rw [hh]; exact hdr0
      refine ⟨⟨fn, hf, by rw [hc]; rfl, hnm⟩, fun w H vs hsub hg ha => ?_⟩
      obtain ⟨s1, s2⟩ := start_rel (n := fn.ntmps) ha (by omega)
      have h0 : StR X.G (fun b => b < w.heap.size) H RM.nil w { tmps := vs ++ Array.replicate (fn.ntmps - vs.size) undef, defers := [] } ⟨start fn.ntmps as, []⟩ := ⟨⟨hsub, fun _ hk => hk, fun id bx b cap h => by simp at h, fun i j bi bj b c c' h => by simp at h⟩, sq_nil, hg, rfl, s1, s2⟩
      have fin : ∀ (a' : Act) (w' : World) (H' : GH) (ρ' : RM) (s : PS) (r0 : PV), Stp 0 (fun b => b < w.heap.size) H RM.nil w H' ρ' w' → StR X.G (fun b => b < w.heap.size) H' ρ' w' a' s → presults P fn s = some r0 → Fz s.hp r0 r → a'.defers = [] ∧ ∃ v, (results fn a'.tmps).run P w' = .ok v w' ∧ ∃ z H'', Ending.returned v = .returned z ∧ Below w.heap.size w w' ∧ H.le H'' ∧ (∀ b o v, b < w.heap.size → H'' b o = some v → H b o = some v) ∧ (∀ b o v, H'' b o = some v → w'.cell? ⟨b, o, none⟩ = some v) ∧ Rel H'' RM.nil z r := fun a' w' H' ρ' s r0 k1 k2 k3 k4 => by
        obtain ⟨z, z1, z2⟩ := presults_sound k2 k3
        obtain ⟨p, q, h3, h4⟩ := k4
        obtain ⟨H2, kn, r2⟩ := fz_sound deep H' s.hp z r0 p q k2.wr z2 h3
        exact ⟨k2.df, z, z1, z, H2, rfl, k1.bel.below, k1.hH.trans kn.hH, fun b o x hb hx => k1.old b o x hb (kn.old b o x hb hx), kn.wr.sub, h4 _ _ r2⟩
      refine calls_of_wp hf hc ?_
      refine wcode_sound hE.mixed hC c hdr _ _ g _ H RM.nil w _ h h0 fun e s g' a' w' H' ρ' h1 m1 m2 => ?_
      cases e with
      | exit i => exact h1.elim
      | normal =>
        simp only at h1
        split at h1
        · rename_i r0 k2; exact fin a' w' H' ρ' s r0 m1 m2 k2 h1
        · exact h1.elim
      | ret =>
        simp only at h1
        split at h1
        · rename_i r0 k2; exact fin a' w' H' ρ' s r0 m1 m2 k2 h1
        · exact h1.elim
  · exact h.elim
end Go.Proofs.YtfhojpnofmlkdaaDoor.Pv
