/- Regions in the order of the text; what is dead is put aside at the head of a loop. -/
import Derived.Test.YtfhojpnofmlkdaaDoorPvJ
namespace Go.Proofs.YtfhojpnofmlkdaaDoor.Pv
open Go.RowKit
set_option linter.unusedSimpArgs false
set_option linter.unusedVariables false
set_option maxHeartbeats 1000000

/-- is the operation carried out? -/
def pwant (ops : Array Oper) (ts : TS) (o : Oper) : Option Bool :=
  match o.guard with
  | none => some true
  | some (j, b) =>
    match (ops[j]?).bind (·.dst) with
    | some d =>
      match getT ts d with
      | .bool x => some (x == b)
      | .tup [] => some false
      | _ => none
    | none => some false
theorem pwant_sound1 {ops : Array Oper} {a : Act} {ts : TS} {o : Oper} {b : Bool} {H : GH} {ρ : RM} (h : pwant ops ts o = some b) (ht : ∀ j b' d, o.guard = some (j, b') → (ops[j]?).bind (·.dst) = some d → Rel H ρ (a.tmps.getD d undef) (getT ts d)) : Region.wanted o (yielded ops a.tmps) = b := by
  unfold pwant at h
  unfold Region.wanted
  split at h
  · rename_i e; cases h; rw [e]
  · rename_i j b' e
    rw [e]
    simp only
    unfold yielded
    split at h
    · rename_i d hd
      rw [hd]
      simp only [Option.bind_some]
      have h1 := ht j b' d e hd
      rw [Array.getD_eq_getD_getElem?] at h1
      split at h
      · rename_i x hx
        cases h
        rw [hx] at h1
        cases hv : a.tmps[d]? with
        | none => rw [hv] at h1; cases h1
        | some v =>
          rw [hv] at h1
          simp only [Option.getD_some] at h1
          cases h1
          cases x <;> cases b' <;> rfl
      · rename_i hx
        cases h
        rw [hx] at h1
        cases hv : a.tmps[d]? with
        | none => cases b' <;> rfl
        | some v =>
          rw [hv] at h1
          simp only [Option.getD_some] at h1
          cases h1
          cases b' <;> rfl
      · cases h
    · rename_i hd
      cases h
      rw [hd]
      cases b' <;> rfl
theorem pwant_sound {ops : Array Oper} {a : Act} {ts : TS} {o : Oper} {b : Bool} {H : GH} {ρ : RM} (h : pwant ops ts o = some b) (ht : ∀ t, Rel H ρ (a.tmps.getD t undef) (getT ts t)) : Region.wanted o (yielded ops a.tmps) = b := pwant_sound1 h fun _ _ d _ _ => ht d
def pseq (P : Program) (G : Nat → List PV) (C : Orc) (ops : Array Oper) : List Oper → PS → Option PS
  | [], s => some s
  | o :: rest, s =>
    match pwant ops s.tmps o with
    | some true =>
      match pop P C (evP G s.tmps) s.hp o.op with
      | some (v, hp') => v.force fun v => forceL hp' fun hp' => pseq P G C ops rest ⟨putT s.tmps o.dst v, hp'⟩
      | none => none
    | some false => pseq P G C ops rest ⟨putT s.tmps o.dst (.tup []), s.hp⟩
    | none => none

/-- the step of a piece of code: the places of the first n boxes stay -/
structure Stp (n : Nat) (B : Nat → Prop) (H : GH) (ρ : RM) (w : World) (H' : GH) (ρ' : RM) (w' : World) : Prop where
  hH : H.le H'
  hρ : ∀ i x, i < n → ρ i = some x → ρ' i = some x
  old : ∀ b o v, B b → H' b o = some v → H b o = some v
  bel : Bel B w w'
theorem Stp.refl (n : Nat) (B : Nat → Prop) (H : GH) (ρ : RM) (w : World) : Stp n B H ρ w H ρ w := ⟨.refl _, fun _ _ _ h => h, fun _ _ _ _ h => h, .refl _ _⟩
theorem Stp.trans {n : Nat} {B : Nat → Prop} {H H' H'' : GH} {ρ ρ' ρ'' : RM} {w w' w'' : World} (h : Stp n B H ρ w H' ρ' w') (k : Stp n B H' ρ' w' H'' ρ'' w'') : Stp n B H ρ w H'' ρ'' w'' :=
  ⟨h.hH.trans k.hH, fun i x hi hx => k.hρ i x hi (h.hρ i x hi hx), fun b o v hb hv => h.old b o v hb (k.old b o v hb hv), h.bel.trans k.bel⟩
theorem Step.stp {n : Nat} {B : Nat → Prop} {H H' : GH} {ρ ρ' : RM} {w w' : World} (h : Step B H ρ w H' ρ' w') : Stp n B H ρ w H' ρ' w' := ⟨h.hH, fun i x _ hx => h.hρ i x hx, h.old, h.bel⟩

theorem pseq_sound {P : Program} {G : Nat → List PV} {C : Orc} (hC : OrcOk P G C) {n : Nat} {B : Nat → Prop} {ops : Array Oper} {Q : Exit → Act → World → Prop} : ∀ (l : List Oper) (H : GH) (ρ : RM) (w : World) (a : Act) (s s' : PS), StR G B H ρ w a s → pseq P G C ops l s = some s' →
    (∀ a' w' H' ρ', Stp n B H ρ w H' ρ' w' → StR G B H' ρ' w' a' s' → Q .normal a' w') → wpList P ops Q l a w := by
  intro l
  induction l with
  | nil =>
    intro H ρ w a s s' h hp hK
    simp only [pseq] at hp; cases hp
    exact hK a w H ρ (.refl _ _ _ _ _) h
  | cons o l ih =>
    intro H ρ w a s s' h hp hK
    unfold pseq at hp
    unfold wpList
    split at hp
    · rename_i hw
      rw [if_pos (pwant_sound hw h.tm)]
      refine .inl ?_
      split at hp
      · rename_i v hp1 h1
        rw [PV.force_eq, forceL_eq] at hp
        refine pop_sound hC h.wr h.sq h.gr (fun x _ => ev_rel h.gr h.tm x) h1 fun z w' H' ρ' k1 k2 k3 k4 => ?_
        exact ih H' ρ' w' _ _ s' (h.go k1 k2 k3 k4) hp fun a' w'' H'' ρ'' m1 m2 => hK a' w'' H'' ρ'' (k1.stp.trans m1) m2
      · cases hp
    · rename_i hw
      rw [if_neg (by rw [pwant_sound hw h.tm]; decide)]
      exact ih H ρ w _ _ s' (h.go (.refl _ _ _ _) h.wr h.sq undef_rel) hp hK
    · cases hp

/-- the numbers of the boxes that a value names -/
def ids : Nat → PV → List Nat
  | 0, _ => []
  | d + 1, v =>
    match v with
    | .sl id _ _ _ => [id]
    | .ptr id _ => [id]
    | .own id _ _ => [id]
    | .agg cs => cs.flatMap (ids d)
    | .tup cs => cs.flatMap (ids d)
    | .fn _ cs => cs.flatMap (ids d)
    | .ifc _ x => ids d x
    | _ => []
def addId (k : List Nat) (i : Nat) : List Nat := if k.contains i then k else k ++ [i]
/-- the boxes that live: the first n, and those that the slots L name -/
def keepIds (n : Nat) (L : List Nat) (s : PS) : List Nat :=
  let k1 := (L.flatMap fun t => ids deep (getT s.tmps t)).foldl addId (List.range n)
  let k2 := (k1.flatMap fun i => match s.hp[i]? with | some bx => if bx.cells.length ≤ 12 then bx.cells.flatMap (ids deep) else [] | none => []).foldl addId k1
  k2
def idx (k : List Nat) (i : Nat) : Option Nat := if k.contains i then some (k.idxOf i) else none
def renBox (m : Nat → Option Nat) (b : Option Box) : Box := match b with | some bx => ⟨bx.sz, bx.cells.map (ren m deep), bx.st⟩ | none => ⟨0, [], 2⟩
def gcWith (k : List Nat) (L : List Nat) (s : PS) : PS :=
  ⟨⟨s.tmps.n, L.map fun t => (t, ren (idx k) deep (getT s.tmps t))⟩, k.map fun i => renBox (idx k) s.hp[i]?⟩
def gc (n : Nat) (L : List Nat) (s : PS) : PS := gcWith (keepIds n L s) L s
theorem addId_nodup {k : List Nat} (h : k.Nodup) (i : Nat) : (addId k i).Nodup := by
  unfold addId
  split
  · exact h
  · rename_i hc
    rw [List.nodup_append]
    refine ⟨h, by simp, fun a ha b hb => ?_⟩
    simp at hb
    subst hb
    rintro rfl
    exact hc (by simpa using ha)
theorem foldl_nodup (l : List Nat) : ∀ {k : List Nat}, k.Nodup → (l.foldl addId k).Nodup := by
  induction l with
  | nil => intro k h; exact h
  | cons a l ih => intro k h; exact ih (addId_nodup h a)
theorem addId_pre {k : List Nat} {i j x : Nat} (h : k[j]? = some x) : (addId k i)[j]? = some x := by
  unfold addId
  split
  · exact h
  · rw [List.getElem?_append_left (List.getElem?_eq_some_iff.1 h).1]; exact h
theorem foldl_pre (l : List Nat) : ∀ {k : List Nat} {j x : Nat}, k[j]? = some x → (l.foldl addId k)[j]? = some x := by
  induction l with
  | nil => intro k j x h; exact h
  | cons a l ih => intro k j x h; exact ih (addId_pre h)
theorem keep_nodup (n : Nat) (L : List Nat) (s : PS) : (keepIds n L s).Nodup := foldl_nodup _ (foldl_nodup _ List.nodup_range)
theorem keep_pre {n i : Nat} (L : List Nat) (s : PS) (h : i < n) : (keepIds n L s)[i]? = some i := foldl_pre _ (foldl_pre _ (by simp [h]))
theorem idx_some {k : List Nat} {i j : Nat} (h : idx k i = some j) : k[j]? = some i := by
  unfold idx at h
  split at h
  · rename_i hc
    cases h
    have hm : i ∈ k := by simpa using hc
    have hl := List.idxOf_lt_length_of_mem hm
    rw [List.getElem?_eq_getElem hl, List.getElem_idxOf hl]
  · cases h
theorem gcWith_rel {G : Nat → List PV} {n : Nat} {B : Nat → Prop} {H : GH} {ρ : RM} {w : World} {a : Act} {s : PS} {k : List Nat} (L : List Nat) (h : StR G B H ρ w a s) (hk : k.Nodup) (hn : ∀ i, i < n → k[i]? = some i) :
    ∃ ρ', StR G B H ρ' w a (gcWith k L s) ∧ ∀ i x, i < n → ρ i = some x → ρ' i = some x := by
  let ρ' : RM := fun j => (k[j]?).bind ρ
  have hm : ∀ i j, idx k i = some j → ρ' j = ρ i := fun i j hj => by simp only [ρ', idx_some hj, Option.bind_some]
  have hbox : ∀ (j : Nat) (bx : Box), (k.map fun i => renBox (idx k) s.hp[i]?)[j]? = some bx → bx.st ≠ 2 → ∃ (i : Nat) (b0 : Box), k[j]? = some i ∧ s.hp[i]? = some b0 ∧ b0.st = bx.st ∧ b0.sz = bx.sz ∧ bx.cells = b0.cells.map (ren (idx k) deep) := fun j bx h1 h2 => by
    rw [List.getElem?_map] at h1
    obtain ⟨i, hi, rfl⟩ := Option.map_eq_some_iff.1 h1
    cases hb : s.hp[i]? with
    | none => rw [hb] at h2; simp [renBox] at h2
    | some b0 => exact ⟨i, b0, hi, hb, rfl, rfl, rfl⟩
  refine ⟨ρ', ⟨⟨h.wr.sub, h.wr.base, fun j bx b cap h1 h2 h3 => ?_, fun j j' bx bx' b c c' h1 h2 h3 h4 h5 h6 => ?_⟩, ⟨fun j bx h1 h2 => ?_, fun j hj => ?_⟩, h.gr, h.df, h.sz, fun t => ?_⟩, fun i x hi hx => ?_⟩
  · obtain ⟨i, b0, e1, e2, e3, e4, e5⟩ := hbox j bx h1 h2
    have h3' : ρ i = some (b, cap) := by simpa only [ρ', e1, Option.bind_some] using h3
    obtain ⟨hB, arr, T, a1, a2, a3, a4, a5, a6⟩ := h.wr.box i b0 b cap e2 (by omega) h3'
    refine ⟨hB, arr, T, a1, by rw [← e4]; exact a2, by rw [e5]; simpa using a3, fun q v c hv hc => ?_, fun e => a5 (by omega), fun e => ?_⟩
    · rw [e5, List.getElem?_map] at hc
      obtain ⟨c0, hc0, rfl⟩ := Option.map_eq_some_iff.1 hc
      exact ren_rel hm _ _ _ (a4 q v c0 hv hc0)
    · obtain ⟨m1, m2⟩ := a6 (by omega)
      refine ⟨fun o ho => m1 o (by rw [e5] at ho; simpa using ho), fun q c hc => ?_⟩
      rw [e5, List.getElem?_map] at hc
      obtain ⟨c0, hc0, rfl⟩ := Option.map_eq_some_iff.1 hc
      obtain ⟨v, l1, l2, l3⟩ := m2 q c0 hc0
      refine ⟨v, l1, l2, ?_⟩
      exact (ren_rel (ρ := RM.nil) (ρ' := RM.nil) (fun _ _ _ => rfl) _ _ _ l3)
  · obtain ⟨i, b0, e1, e2, e3, _⟩ := hbox j bx h1 h3
    obtain ⟨i', b0', e1', e2', e3', _⟩ := hbox j' bx' h2 h4
    have h5' : ρ i = some (b, c) := by simpa only [ρ', e1, Option.bind_some] using h5
    have h6' : ρ i' = some (b, c') := by simpa only [ρ', e1', Option.bind_some] using h6
    have e := h.wr.inj i i' b0 b0' b c c' e2 e2' (by omega) (by omega) h5' h6'
    subst e
    exact (List.getElem?_inj (List.getElem?_eq_some_iff.1 e1).1 hk).1 (e1.trans e1'.symm)
  · obtain ⟨i, b0, e1, e2, e3, _⟩ := hbox j bx h1 (by omega)
    obtain ⟨x, hx⟩ := h.sq.tot i b0 e2 (by omega)
    exact ⟨x, by simp only [ρ', e1, Option.bind_some]; exact hx⟩
  · simp only [gcWith, List.length_map] at hj
    simp only [ρ', List.getElem?_eq_none hj, Option.bind_none]
  · have ht := h.tm t
    have key : ∀ l : List Nat, Rel H ρ' (a.tmps.getD t undef) (lk (l.map fun t => (t, ren (idx k) deep (getT s.tmps t))) t) := by
      intro l
      induction l with
      | nil => exact .any _
      | cons x l ih =>
        simp only [List.map_cons, lk]
        split
        · rename_i e; subst e; exact ren_rel hm _ _ _ ht
        · exact ih
    exact key L
  · simp only [ρ', hn i hi, Option.bind_some]; exact hx
theorem gc_rel {G : Nat → List PV} {n : Nat} {B : Nat → Prop} {H : GH} {ρ : RM} {w : World} {a : Act} {s : PS} (L : List Nat) (h : StR G B H ρ w a s) :
    ∃ ρ', StR G B H ρ' w a (gc n L s) ∧ ∀ i x, i < n → ρ i = some x → ρ' i = some x := gcWith_rel L h (keep_nodup n L s) (fun i hi => keep_pre L s hi)
end Go.Proofs.YtfhojpnofmlkdaaDoor.Pv
