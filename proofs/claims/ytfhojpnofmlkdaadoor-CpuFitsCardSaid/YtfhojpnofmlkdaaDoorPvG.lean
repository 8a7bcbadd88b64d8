/- Appending. -/
import Derived.Test.YtfhojpnofmlkdaaDoorPvF
namespace Go.Proofs.YtfhojpnofmlkdaaDoor.Pv
open Go.RowKit
set_option linter.unusedSimpArgs false
set_option linter.unusedVariables false
set_option maxHeartbeats 1000000

def flat : List PV → Option (List PV)
  | [] => some []
  | e :: es =>
    match e.cells?, flat es with
    | some a, some b => some (a ++ b)
    | _, _ => none
def tcells (hp : List Box) (sz : Nat) (t : PV) : Option (Nat × List PV) :=
  match t.un with
  | .nils => some (0, [])
  | .emp => some (0, [])
  | .lst sz' es => if sz' = sz then (flat es).map fun cs => (es.length, cs) else none
  | .sl id sz' off len =>
    match hp[id]? with
    | some bx => if bx.st ≤ 1 ∧ sz' = sz ∧ (off + len) * sz ≤ bx.cells.length then some (len, (bx.cells.drop (off * sz)).take (len * sz)) else none
    | none => none
  | _ => none
theorem flat_at {sz : Nat} : ∀ (es cs : List PV) (ec : Nat → List PV), flat es = some cs → (∀ (i : Nat) e, es[i]? = some e → e.cells? = some (ec i) ∧ (ec i).length = sz) →
    cs.length = es.length * sz ∧ ∀ (j : Nat) c, cs[j]? = some c → j / sz < es.length ∧ (ec (j / sz))[j % sz]? = some c := by
  intro es
  induction es with
  | nil => intro cs ec h _; simp only [flat] at h; cases h; exact ⟨by simp, fun j c hc => by simp at hc⟩
  | cons e es ih =>
    intro cs ec h he
    simp only [flat] at h
    split at h
    · rename_i a b ha hb
      cases h
      obtain ⟨k1, k2⟩ := he 0 e rfl
      rw [ha] at k1; cases k1
      obtain ⟨l1, l2⟩ := ih b (fun i => ec (i + 1)) hb (fun i e' hi => he (i + 1) e' hi)
      refine ⟨by rw [List.length_append, l1, k2, List.length_cons, Nat.add_mul]; omega, fun j c hc => ?_⟩
      by_cases hj : j < sz
      · rw [List.getElem?_append_left (by omega)] at hc
        rw [Nat.div_eq_of_lt hj, Nat.mod_eq_of_lt hj]
        exact ⟨by simp, hc⟩
      · rw [List.getElem?_append_right (by omega), k2] at hc
        obtain ⟨m1, m2⟩ := l2 _ c hc
        have hz : 0 < sz := by
          rcases Nat.eq_zero_or_pos sz with e0 | e0
          · subst e0
            have := (List.getElem?_eq_some_iff.1 hc).1
            rw [l1] at this; simp at this
          · exact e0
        have e1 : j / sz = (j - sz) / sz + 1 := by rw [Nat.div_eq_sub_div hz (by omega)]
        have e2 : j % sz = (j - sz) % sz := Nat.mod_eq_sub_mod (by omega)
        rw [e1, e2]
        exact ⟨by simp only [List.length_cons]; omega, m2⟩
    · cases h
theorem tcells_sound {P : Program} {B : Nat → Prop} {hp : List Box} {sz n : Nat} {t : PV} {cs : List PV} {u : Value} {H : GH} {ρ : RM} {w : World} (hw : WR B H ρ w hp) (h : tcells hp sz t = some (n, cs)) (hx : Rel H ρ u t) :
    ∃ a cap, u = .slice a n cap ∧ cs.length = n * sz ∧ ∃ us : List Value, us.length = cs.length ∧ (Builtin.firstCells sz n u).run P w = .ok us.toArray w ∧ ∀ (j : Nat) v c, us[j]? = some v → cs[j]? = some c → Rel H ρ v c := by
  replace hx := hx.un
  unfold tcells at h
  generalize t.un = t at h hx
  split at h
  · cases h
    cases hx
    refine ⟨none, 0, rfl, by simp, [], rfl, ?_, fun j v c hv => by simp at hv⟩
    simp [Builtin.firstCells, loadCells, loadCellsFrom, Sem.run_pure]
  · cases h
    cases hx with | emp a =>
    refine ⟨a, 0, rfl, by simp, [], rfl, ?_, fun j v c hv => by simp at hv⟩
    cases a <;> simp [Builtin.firstCells, loadCells, loadCellsFrom, Sem.run_pure]
  · rename_i sz' es
    split at h
    · rename_i e
      have e := e.symm
      subst e
      obtain ⟨cs', hf, e⟩ := Option.map_eq_some_iff.1 h
      cases e
      cases hx with | lst a cap _ _ b o g ec hcap ha hH he hr =>
      obtain ⟨l1, l2⟩ := flat_at es cs ec hf he
      refine ⟨a, cap, rfl, l1, (List.range cs.length).map g, by simp, ?_, fun j v c hv hc => ?_⟩
      · by_cases hne : es = []
        · subst hne
          rw [l1]
          cases a <;> simp [Builtin.firstCells, loadCells, loadCellsFrom, Sem.run_pure]
        · cases ha hne
          have e := run_loadCells_list (P := P) (w := w) ⟨b, o, none⟩ ((List.range cs.length).map g) (fun j v hv => by
            rw [add_addr]
            rw [List.getElem?_map] at hv
            obtain ⟨k, hk, rfl⟩ := Option.map_eq_some_iff.1 hv
            obtain ⟨hl, hk⟩ := List.getElem?_eq_some_iff.1 hk
            simp at hk hl; subst hk
            exact hw.sub _ _ _ (hH _ (by omega)))
          rw [List.length_map, List.length_range] at e
          unfold Builtin.firstCells
          rw [← l1]
          exact e
      · rw [List.getElem?_map] at hv
        obtain ⟨k, hk, rfl⟩ := Option.map_eq_some_iff.1 hv
        obtain ⟨hl, hk⟩ := List.getElem?_eq_some_iff.1 hk
        simp at hk hl; subst hk
        obtain ⟨m1, m2⟩ := l2 _ c hc
        have := hr _ _ c m1 m2
        have e : (j : Nat) / sz * sz + j % sz = j := by rw [Nat.mul_comm]; exact Nat.div_add_mod _ _
        rw [e] at this
        exact this.up
    · cases h
  · rename_i id sz' off len
    split at h
    · rename_i bx hbx
      split at h
      · rename_i hc
        obtain ⟨hst, e, hle⟩ := hc
        have e := e.symm
        subst e
        cases h
        cases hx with | sl _ _ _ _ b cap hρ hcap =>
        obtain ⟨_, arr, E, h1, h2, h3, h4, _, _⟩ := hw.box _ _ _ _ hbx (by omega) hρ
        have hm : (off + n) * sz = off * sz + n * sz := Nat.add_mul _ _ _
        refine ⟨_, _, rfl, by simp; omega, (arr.toList.drop (off * sz)).take (n * sz), by simp; omega, ?_, fun j v c hv hc => ?_⟩
        · have e := run_loadCells_list (P := P) (w := w) ⟨b, off * sz, none⟩ ((arr.toList.drop (off * sz)).take (n * sz)) (fun j v hv => by
            rw [add_addr, heap_cell h1]
            rw [List.getElem?_take] at hv
            split at hv
            · rw [List.getElem?_drop, Array.getElem?_toList] at hv; exact hv
            · cases hv)
          rw [show ((arr.toList.drop (off * sz)).take (n * sz)).length = n * sz by simp; omega] at e
          exact e
        · rw [List.getElem?_take] at hv hc
          split at hv
          · rename_i hj
            rw [if_pos hj, List.getElem?_drop] at hc
            rw [List.getElem?_drop, Array.getElem?_toList] at hv
            exact h4 _ _ _ hv hc
          · cases hv
      · cases h
    · cases h
  · cases h

/-- append(s, t..) where s has no room: a box is made, or nothing -/
def pappF (P : Program) (hp : List Box) (id : Nat) (T X : TypeId) (s t : PV) : Option (PV × Option Box) :=
  match P.underlying T, P.underlying X with
  | some (.slice E), some (.slice _) =>
    match szT P E, zeroP P E with
    | some sz, some z =>
      if sz = z.length ∧ 0 < sz then
        match tcells hp sz t with
        | some (k, xs) =>
          if xs.all PV.atom = true then
            match s with
            | .nils => if k = 0 then some (.nils, none) else if bytesOk P E k = true then some (.sl id sz 0 k, some ⟨sz, xs, 0⟩) else none
            | .emp => if k = 0 then some (.emp, none) else if bytesOk P E k = true then some (.sl id sz 0 k, some ⟨sz, xs, 0⟩) else none
            | _ => none
          else none
        | none => none
      else none
    | _, _ => none
  | _, _ => none
/-- append(s, t..): the new box is number id -/
def pappend (P : Program) (hp : List Box) (id : Nat) (T X : TypeId) (s t : PV) : Option (PV × List Box) :=
  match P.underlying T, P.underlying X with
  | some (.slice E), some (.slice _) =>
    match szT P E, zeroP P E with
    | some sz, some z =>
      if sz = z.length ∧ 0 < sz then
        match tcells hp sz t with
        | some (k, xs) =>
          if xs.all PV.atom = true then
            match s with
            | .nils => (pappF P hp id T X .nils t).map fun (v, b) => (v, hp ++ b.toList)
            | .emp => (pappF P hp id T X .emp t).map fun (v, b) => (v, hp ++ b.toList)
            | .sl i sz' 0 len =>
              if k = 0 then some (.sl i sz' 0 len, hp) else
              match hp[i]? with
              | some bx => if bx.st = 0 ∧ sz' = sz ∧ bx.sz = sz ∧ len * sz ≤ bx.cells.length ∧ bytesOk P E (len + k) = true then some (.sl id sz 0 (len + k), hp.set i ⟨bx.sz, bx.cells, 2⟩ ++ [⟨sz, bx.cells.take (len * sz) ++ xs, 0⟩]) else none
              | none => none
            | _ => none
          else none
        | none => none
      else none
    | _, _ => none
  | _, _ => none

theorem WR.drew {B : Nat → Prop} {H : GH} {ρ : RM} {w : World} {hp : List Box} (h : WR B H ρ w hp) : WR B H ρ w.drew hp := ⟨h.sub, h.base, h.box, h.inj⟩
/-- a box is given up -/
theorem WR.kill {B : Nat → Prop} {H : GH} {ρ : RM} {w : World} {hp : List Box} (h : WR B H ρ w hp) (i : Nat) (bx : Box) (hst : bx.st = 2) : WR B H ρ w (hp.set i bx) := by
  have key : ∀ (j : Nat) (b' : Box), (hp.set i bx)[j]? = some b' → b'.st ≠ 2 → hp[j]? = some b' := fun j b' h1 h2 => by
    rcases ext_set h1 with ⟨_, rfl, _⟩ | ⟨_, h1⟩
    · exact absurd hst h2
    · exact h1
  exact ⟨h.sub, h.base, fun j b' b c a1 a2 a3 => h.box j b' b c (key _ _ a1 a2) a2 a3, fun i j bi bj b c c' a1 a2 a3 a4 a5 a6 => h.inj i j bi bj b c c' (key _ _ a1 a3) (key _ _ a2 a4) a3 a4 a5 a6⟩
/-- a box gets another number -/
theorem WR.rename {B : Nat → Prop} {H : GH} {ρ : RM} {w : World} {hp : List Box} {i b cap : Nat} {bx bz : Box} (h : WR B H ρ w hp) (hi : hp[i]? = some bx) (hst : bx.st ≠ 2) (hρ : ρ i = some (b, cap)) (hn : ρ hp.length = none) (hz : bz.st = 2) : WR B H (ρ.put hp.length (b, cap)) w (hp.set i bz ++ [bx]) := by
  have hle := RM.put_le (x := (b, cap)) hn
  have key : ∀ (j : Nat) (b' : Box) (x : Nat × Nat), (hp.set i bz ++ [bx])[j]? = some b' → b'.st ≠ 2 → (ρ.put hp.length (b, cap)) j = some x → (j = hp.length ∧ b' = bx ∧ x = (b, cap)) ∨ (j ≠ i ∧ hp[j]? = some b' ∧ ρ j = some x) := fun j b' x h1 h2 h3 => by
    unfold RM.put at h3
    split at h3
    · rename_i e; subst e; cases h3
      rw [List.getElem?_append_right (by simp)] at h1
      simp at h1
      exact .inl ⟨rfl, h1.symm, rfl⟩
    · rename_i e
      have hl : j < (hp.set i bz).length := by
        have := (List.getElem?_eq_some_iff.1 h1).1
        simp at this ⊢; omega
      rw [List.getElem?_append_left hl] at h1
      rcases ext_set h1 with ⟨_, rfl, _⟩ | ⟨h0, h1⟩
      · exact absurd hz h2
      · exact .inr ⟨h0, h1, h3⟩
  refine ⟨h.sub, h.base, fun j b' c cc a1 a2 a3 => ?_, fun j k bj bk c c1 c2 a1 a2 a3 a4 a5 a6 => ?_⟩
  · rcases key _ _ _ a1 a2 a3 with ⟨_, rfl, e⟩ | ⟨_, h1, h2⟩
    · cases e
      obtain ⟨hB, hb⟩ := h.box _ _ _ _ hi hst hρ
      exact ⟨hB, hb.keep rfl (.refl _) hle (fun _ _ h => h)⟩
    · obtain ⟨hB, hb⟩ := h.box _ _ _ _ h1 a2 h2
      exact ⟨hB, hb.keep rfl (.refl _) hle (fun _ _ h => h)⟩
  · rcases key _ _ _ a1 a3 a5 with ⟨e1, _, e2⟩ | ⟨n1, h1, h2⟩ <;> rcases key _ _ _ a2 a4 a6 with ⟨e3, _, e4⟩ | ⟨n3, h3, h4⟩
    · omega
    · cases e2; exact absurd (h.inj _ _ _ _ _ _ _ h3 hi a4 hst h4 hρ) n3
    · cases e4; exact absurd (h.inj _ _ _ _ _ _ _ h1 hi a3 hst h2 hρ) n1
    · exact h.inj _ _ _ _ _ _ _ h1 h3 a3 a4 h2 h4

theorem zero_cells_size (z : Array Value) (n : Nat) : (Builtin.zeroCells z n).size = n * z.size := by simp [Builtin.zeroCells]
theorem growBy_le (need : Nat) : ∀ (r c m : Nat), c ≤ m → (∀ c', c' < need → c' + (c' + 768) / 4 ≤ m) → Builtin.growBy need r c ≤ m := by
  intro r
  induction r with
  | zero => intro c m h _; exact h
  | succ r ih =>
    intro c m h h'
    unfold Builtin.growBy
    split
    · exact h
    · exact ih _ m (h' c (by omega)) h'
theorem next_le (need cap : Nat) (h : cap < need) : Builtin.nextslicecap need cap ≤ 2 * need := by
  unfold Builtin.nextslicecap
  split
  · omega
  · split
    · omega
    · exact growBy_le need 4 cap (2 * need) (by omega) (fun c' hc => by omega)
/-- the machine's append where there is room -/
theorem append_room {P : Program} {ts : Array TypeId} {T X ty E F : TypeId} {sz k len cap : Nat} {base : Option Addr} {t : Value} {us : List Value} {w w' : World} (hT : ts[0]? = some T) (hX : ts[1]? = some X) (h1 : P.underlying T = some (.slice E)) (h2 : P.underlying X = some (.slice F)) (hs : szT P E = some sz)
    (hl : (Builtin.lenOf t).run P w = .ok k w) (hf : (Builtin.firstCells sz k t).run P w = .ok us.toArray w) (hc : len + k ≤ cap) (hst : (match base with | some a => storeCells (a.add (len * sz)) us | none => pure () : Sem Unit).run P w = .ok () w') :
    (Builtin.append_ ts ty #[.slice base len cap, t]).run P w = .ok (.slice base (len + k) cap) w' := by
  unfold Builtin.append_
  cases base with
  | none => simp at hst; subst hst; simp [hT, hX, Sem.run_bind, r_und h1, r_und h2, r_size hs, hl, hc, hf]
  | some a => simp only [] at hst; simp [hT, hX, Sem.run_bind, r_und h1, r_und h2, r_size hs, hl, hc, hf, hst]
/-- the machine's append where there is none -/
theorem append_moved {P : Program} {ts : Array TypeId} {T X ty E F : TypeId} {i : TypeInfo} {sz k len cap : Nat} {base : Option Addr} {t z : Value} {us os : List Value} {w : World} (hT : ts[0]? = some T) (hX : ts[1]? = some X) (h1 : P.underlying T = some (.slice E)) (h2 : P.underlying X = some (.slice F)) (hs : szT P E = some sz)
    (hi : P.info? E = some i) (hb : 2 * ((len + k) * i.bytes) ≤ 2 ^ 48) (hz : (zeroValue E).run P w.drew = .ok z w.drew)
    (hl : (Builtin.lenOf t).run P w = .ok k w) (hf : (Builtin.firstCells sz k t).run P w.drew = .ok us.toArray w.drew) (ho : (Builtin.firstCells sz len (.slice base len cap)).run P w.drew = .ok os.toArray w.drew) (hc : cap < len + k) (h0 : 0 < i.bytes) :
    ∃ c, len + k ≤ c ∧ (Builtin.append_ ts ty #[.slice base len cap, t]).run P w = .ok (.slice (some ⟨w.heap.size, 0, none⟩) (len + k) c) (w.drew.alloc (.cells (os.toArray ++ (us.toArray ++ Builtin.zeroCells z.cells (c - (len + k)))) E)) := by
  have hti : ∀ w : World, (typeInfo E).run P w = .ok i w := fun w => by simp [typeInfo, hi, go_sem]
  have hro : ∀ (w : World) m, (askRoom m).run P w = .ok () w := fun w m => by unfold askRoom; split <;> simp [mark, Sem.run]
  have hnx : ¬ (281474976710656 < Builtin.nextslicecap (len + k) cap * i.bytes) := by
    have := next_le (len + k) cap hc
    have : Builtin.nextslicecap (len + k) cap * i.bytes ≤ 2 * (len + k) * i.bytes := Nat.mul_le_mul_right _ this
    rw [Nat.mul_assoc] at this
    omega
  have hnc : ¬ (len + k ≤ cap) := by omega
  have hb0 : ¬ i.bytes = 0 := by omega
  refine ⟨(Question.appendCap (len + k) cap E).cut (w.tape w.drawn (.appendCap (len + k) cap E)), by simp [Question.cut], ?_⟩
  have hch : (choose (.appendCap (len + k) cap E)).run P w = .ok ((Question.appendCap (len + k) cap E).cut (w.tape w.drawn (.appendCap (len + k) cap E))) w.drew := by
    simp [choose, Sem.run, Question.forced]
  have hfo : (Question.appendCap (len + k) cap E).forced = false := rfl
  unfold Builtin.append_
  simp [hT, hX, Sem.run_bind, r_und h1, r_und h2, r_size hs, hl, hf, ho, hti, hfo, hro, hnx, hnc, hb0, hch, hz, newRow, newObj, Sem.run, World.alloc_eq]

theorem SQ.more {ρ : RM} {hp : List Box} (h : SQ ρ hp) (bx : Box) (x : Nat × Nat) : SQ (ρ.put hp.length x) (hp ++ [bx]) := by
  refine ⟨fun id b h1 h2 => ?_, fun id h1 => ?_⟩
  · by_cases e : id = hp.length
    · subst e; exact ⟨x, RM.put_same⟩
    · have hl : id < hp.length := by have := (List.getElem?_eq_some_iff.1 h1).1; simp at this; omega
      rw [List.getElem?_append_left hl] at h1
      obtain ⟨y, hy⟩ := h.tot id b h1 h2
      exact ⟨y, by unfold RM.put; rw [if_neg e]; exact hy⟩
  · simp at h1
    unfold RM.put
    rw [if_neg (by omega)]
    exact h.fresh id (by omega)
theorem SQ.set {ρ : RM} {hp : List Box} (h : SQ ρ hp) (i : Nat) (bx : Box) (hb : ∀ b, hp[i]? = some b → b.st ≤ bx.st) : SQ ρ (hp.set i bx) := by
  refine ⟨fun id b h1 h2 => ?_, fun id h1 => h.fresh id (by simpa using h1)⟩
  rcases ext_set h1 with ⟨rfl, rfl, hl⟩ | ⟨_, h1⟩
  · obtain ⟨b, hb'⟩ : ∃ b, hp[id]? = some b := ⟨_, List.getElem?_eq_getElem hl⟩
    exact h.tot id b hb' (by have := hb b hb'; omega)
  · exact h.tot id b h1 h2
theorem SQ.kill {ρ : RM} {hp : List Box} (h : SQ ρ hp) (i : Nat) (bx : Box) (hb : 1 < bx.st) : SQ ρ (hp.set i bx) := by
  refine ⟨fun id b h1 h2 => ?_, fun id h1 => h.fresh id (by simpa using h1)⟩
  rcases ext_set h1 with ⟨rfl, rfl, hl⟩ | ⟨_, h1⟩
  · omega
  · exact h.tot id b h1 h2
theorem cat_rel {H : GH} {ρ : RM} {os us zs : List Value} {cs xs : List PV} (hl : os.length = cs.length) (ho : ∀ (j : Nat) v c, os[j]? = some v → cs[j]? = some c → Rel H ρ v c) (hu : ∀ (j : Nat) v c, us[j]? = some v → xs[j]? = some c → Rel H ρ v c) (hl2 : us.length = xs.length) :
    ∀ (j : Nat) v c, (os ++ (us ++ zs))[j]? = some v → (cs ++ xs)[j]? = some c → Rel H ρ v c := by
  intro j v c hv hc
  by_cases h1 : j < os.length
  · rw [List.getElem?_append_left h1] at hv
    rw [List.getElem?_append_left (by omega)] at hc
    exact ho _ _ _ hv hc
  · rw [List.getElem?_append_right (by omega)] at hv hc
    rw [hl] at hv
    have h2 : j - cs.length < us.length := by
      have := (List.getElem?_eq_some_iff.1 hc).1; omega
    rw [List.getElem?_append_left h2] at hv
    exact hu _ _ _ hv hc
theorem pappF_sound {P : Program} {id : Nat} {B : Nat → Prop} {hp hpn : List Box} {T X ty : TypeId} {ts : Array TypeId} {s t r : PV} {bo : Option Box} {us ut : Value} {H : GH} {ρ : RM} {w : World} (hr0 : WR B H ρ w hp) (hw : WR B H ρ w hpn) (hT : ts[0]? = some T) (hX : ts[1]? = some X) (hs : Rel H ρ us s) (ht : Rel H ρ ut t) (h : pappF P hp id T X s t = some (r, bo)) (hb : ∀ bx, bo = some bx → ρ id = none ∧ hpn[id]? = some bx) :
    ∃ z w', (Builtin.append_ ts ty #[us, ut]).run P w = .ok z w' ∧ ((bo = none ∧ w' = w ∧ Rel H ρ z r) ∨ ∃ bx x, bo = some bx ∧ WR B H (ρ.put id x) w' hpn ∧ Step B H ρ w H (ρ.put id x) w' ∧ Rel H (ρ.put id x) z r) := by
  unfold pappF at h
  split at h
  · rename_i E F h1 h2
    split at h
    · rename_i sz z hsz hz
      split at h
      · rename_i hc
        obtain ⟨c1, c2⟩ := hc
        split at h
        · rename_i k xs hk
          obtain ⟨at', capt, rfl, hkl, vs, hvl, hvf, hvr⟩ := tcells_sound (P := P) hr0 hk ht
          obtain ⟨_, _, e, _, vs', hvl', hvf', hvr'⟩ := tcells_sound (P := P) hr0.drew hk ht
          have hll : (Builtin.lenOf (.slice at' k capt)).run P w = .ok k w := by simp [Builtin.lenOf]
          obtain ⟨zv, z1, z2, z3⟩ := zeroP_run (w := w.drew) hz
          split at h
          · rename_i hat
            have main : ∀ (a : Option Addr) (s0 : PV), Rel H ρ (.slice a 0 0) s0 → (if k = 0 then some (s0, none) else if bytesOk P E k = true then some (.sl id sz 0 k, some (⟨sz, xs, 0⟩ : Box)) else none) = some (r, bo) →
                ∃ z w', (Builtin.append_ ts ty #[.slice a 0 0, .slice at' k capt]).run P w = .ok z w' ∧ ((bo = none ∧ w' = w ∧ Rel H ρ z r) ∨ ∃ bx x, bo = some bx ∧ WR B H (ρ.put id x) w' hpn ∧ Step B H ρ w H (ρ.put id x) w' ∧ Rel H (ρ.put id x) z r) := fun a s0 hs0 hm => by
              split at hm
              · rename_i hk0
                subst hk0
                cases hm
                have e0 : vs = [] := List.eq_nil_of_length_eq_zero (by omega)
                subst e0
                refine ⟨_, w, append_room hT hX h1 h2 hsz hll hvf (Nat.le_refl _) (by cases a <;> simp [storeCells]), .inl ⟨rfl, rfl, ?_⟩⟩
                simpa using hs0
              · rename_i hk0
                split at hm
                · rename_i hby0
                  cases hm
                  obtain ⟨hq, hid⟩ := hb _ rfl
                  unfold bytesOk at hby0
                  split at hby0
                  · rename_i i hi
                    obtain ⟨hby, hb'⟩ := of_decide_eq_true hby0
                    obtain ⟨c, hc1, hc2⟩ := append_moved (ty := ty) (base := a) (len := 0) (cap := 0) (os := []) hT hX h1 h2 hsz hi (by simpa using hb') z1 hll hvf' (by cases a <;> simp [Builtin.firstCells, loadCells, loadCellsFrom]) (by omega) hby
                    have hal := hw.drew.alloc (id := id) (cap := c) (bx := ⟨sz, xs, 0⟩) (arr := ((vs'.toArray ++ Builtin.zeroCells zv.cells (c - k)))) (T := E) hid rfl hq (by
                      rw [Array.size_append, zero_cells_size, z2, ← c1]
                      simp
                      rw [hvl', hkl, ← Nat.add_mul]
                      congr 1
                      omega) (by rw [Array.size_append]; simp; omega) (by
                      intro j v q hv hq
                      have := cat_rel (H := H) (ρ := ρ) (os := []) (cs := []) (us := vs') (zs := (Builtin.zeroCells zv.cells (c - k)).toList) rfl (by simp) hvr' hvl' j v q
                      refine this ?_ (by simpa using hq)
                      rw [← Array.getElem?_toList] at hv
                      simpa using hv)
                    refine ⟨_, _, hc2, .inr ⟨_, _, rfl, by simpa using hal, ⟨.refl _, RM.put_le hq, fun _ _ _ _ h => h, ((Bel.refl _ _).drew).alloc hw.base _⟩, ?_⟩⟩
                    have := Rel.sl (H := H) id sz 0 k w.heap.size c (RM.put_same (ρ := ρ) (id := id) (x := (w.heap.size, c))) (by omega)
                    simpa using this
                  · cases hby0
                · cases hm
            split at h
            · cases hs; exact main none .nils .nils h
            · cases hs with | emp a => exact main a .emp (.emp a) h
            · cases h
          · cases h
        · cases h
      · cases h
    · cases h
  · cases h
theorem pappend_sound {P : Program} {B : Nat → Prop} {hp hp' : List Box} {T X ty : TypeId} {ts : Array TypeId} {s t r : PV} {us ut : Value} {H : GH} {ρ : RM} {w : World} (hw : WR B H ρ w hp) (hsq : SQ ρ hp) (hT : ts[0]? = some T) (hX : ts[1]? = some X) (hs : Rel H ρ us s) (ht : Rel H ρ ut t) (h : pappend P hp hp.length T X s t = some (r, hp')) :
    ∃ z w' ρ', (Builtin.append_ ts ty #[us, ut]).run P w = .ok z w' ∧ WR B H ρ' w' hp' ∧ Step B H ρ w H ρ' w' ∧ Rel H ρ' z r ∧ SQ ρ' hp' := by
  have hq := hsq.fresh _ (Nat.le_refl _)
  unfold pappend at h
  split at h
  · rename_i E F h1 h2
    split at h
    · rename_i sz z hsz hz
      split at h
      · rename_i hc
        obtain ⟨c1, c2⟩ := hc
        split at h
        · rename_i k xs hk
          obtain ⟨at', capt, rfl, hkl, vs, hvl, hvf, hvr⟩ := tcells_sound (P := P) hw hk ht
          obtain ⟨_, _, e, _, vs', hvl', hvf', hvr'⟩ := tcells_sound (P := P) hw.drew hk ht
          have hll : (Builtin.lenOf (.slice at' k capt)).run P w = .ok k w := by simp [Builtin.lenOf]
          obtain ⟨zv, z1, z2, z3⟩ := zeroP_run (w := w.drew) hz
          split at h
          · rename_i hat
            have hone : ∀ y ∈ vs, y.oneCell' = true := fun y hy => by
              obtain ⟨i, hi⟩ := List.mem_iff_getElem?.1 hy
              obtain ⟨c, hc⟩ : ∃ c, xs[i]? = some c := ⟨_, List.getElem?_eq_getElem (by have := (List.getElem?_eq_some_iff.1 hi).1; omega)⟩
              exact (hvr i y c hi hc).one (List.all_eq_true.1 hat c (List.mem_of_getElem? hc))
            split at h
            · obtain ⟨⟨r', bo⟩, hF, e1⟩ := Option.map_eq_some_iff.1 h
              cases e1
              obtain ⟨z, w', k1, k2⟩ := pappF_sound (ty := ty) (ts := ts) (hpn := hp ++ bo.toList) hw (by cases bo with | none => simpa using hw | some bx => exact hw.more bx hq) hT hX hs ht hF (fun bx e2 => by subst e2; exact ⟨hq, by simp⟩)
              rcases k2 with ⟨rfl, rfl, k3⟩ | ⟨bx, x, rfl, k3, k4, k5⟩
              · exact ⟨z, w', ρ, k1, by simpa using hw, .refl _ _ _ _, k3, by simpa using hsq⟩
              · exact ⟨z, w', _, k1, k3, k4, k5, hsq.more _ _⟩
            · obtain ⟨⟨r', bo⟩, hF, e1⟩ := Option.map_eq_some_iff.1 h
              cases e1
              obtain ⟨z, w', k1, k2⟩ := pappF_sound (ty := ty) (ts := ts) (hpn := hp ++ bo.toList) hw (by cases bo with | none => simpa using hw | some bx => exact hw.more bx hq) hT hX hs ht hF (fun bx e2 => by subst e2; exact ⟨hq, by simp⟩)
              rcases k2 with ⟨rfl, rfl, k3⟩ | ⟨bx, x, rfl, k3, k4, k5⟩
              · exact ⟨z, w', ρ, k1, by simpa using hw, .refl _ _ _ _, k3, by simpa using hsq⟩
              · exact ⟨z, w', _, k1, k3, k4, k5, hsq.more _ _⟩
            · rename_i i sz' len
              cases hs with | sl _ _ _ _ b cap hρ hcap =>
              split at h
              · rename_i hk0
                subst hk0
                cases h
                have e0 : vs = [] := List.eq_nil_of_length_eq_zero (by omega)
                subst e0
                refine ⟨_, w, ρ, append_room hT hX h1 h2 hsz hll hvf (by omega) (by simp [storeCells]), hw, .refl _ _ _ _, ?_, hsq⟩
                have := Rel.sl (H := H) i sz' 0 len b cap hρ hcap
                simpa using this
              · rename_i hk0
                split at h
                · rename_i bx hbx
                  split at h
                  · rename_i hc
                    obtain ⟨d1, d2, d3, d4, hb⟩ := hc
                    subst d2
                    cases h
                    obtain ⟨hB, arr, F', a1, a2, a3, a4, a5, _⟩ := hw.box _ _ _ _ hbx (by omega) hρ
                    have hbi := hb
                    unfold bytesOk at hbi
                    split at hbi
                    case h_2 => cases hbi
                    rename_i i' hi'
                    obtain ⟨hby, hb'⟩ := of_decide_eq_true hbi
                    have hsize : arr.size = cap * sz' := by rw [a2, d3]
                    have hdead : ∀ (bn : Box) (x : Nat × Nat), SQ (ρ.put hp.length x) (hp.set i ⟨bx.sz, bx.cells, 2⟩ ++ [bn]) := fun bn x => by
                      have := (hsq.set i ⟨bx.sz, bx.cells, 2⟩ (fun b hb => by rw [hbx] at hb; cases hb; show bx.st ≤ 2; omega)).more bn x
                      rwa [List.length_set] at this
                    by_cases hroom : len + k ≤ cap
                    · have hfit : len * sz' + k * sz' ≤ arr.size := by rw [hsize, ← Nat.add_mul]; exact Nat.mul_le_mul_right _ hroom
                      have e := run_storeCells_at (P := P) b (len * sz') F' vs 0 arr w a1 (by omega) hone
                      have hrun := append_room (P := P) (ty := ty) (len := len) (cap := cap - 0) (base := some ⟨b, 0 * sz', none⟩) (w := w) hT hX h1 h2 hsz hll hvf (by omega) (by
                        simp only [Nat.zero_mul, add_addr, Nat.zero_add]
                        exact e)
                      have hset := hw.setRow (cs := bx.cells.take (len * sz') ++ xs) (arr' := (arr.toList.take (len * sz' + 0) ++ vs ++ arr.toList.drop (len * sz' + 0 + vs.length)).toArray) hbx d1 hρ a1 (by simp; omega) (by simp; omega) (fun j v q hv hq => by
                        have := cat_rel (H := H) (ρ := ρ) (os := arr.toList.take (len * sz')) (cs := bx.cells.take (len * sz')) (us := vs) (xs := xs) (zs := arr.toList.drop (len * sz' + vs.length)) (by simp; omega) (fun j v q hv hq => by
                          rw [List.getElem?_take] at hv hq
                          split at hv
                          · rename_i hj
                            rw [if_pos hj] at hq
                            rw [Array.getElem?_toList] at hv
                            exact a4 _ _ _ hv hq
                          · cases hv) hvr hvl j v q
                        refine this ?_ hq
                        simpa using hv)
                      have hren := hset.rename (i := i) (b := b) (cap := cap) (bx := ⟨bx.sz, bx.cells.take (len * sz') ++ xs, 0⟩) (bz := ⟨bx.sz, bx.cells, 2⟩) (by rw [List.getElem?_set_self (List.getElem?_eq_some_iff.1 hbx).1]) (by simp) hρ (by rw [List.length_set]; exact hq) rfl
                      rw [List.set_set, List.length_set, d3] at hren
                      rw [d3]
                      refine ⟨_, _, _, hrun, hren, ⟨.refl _, RM.put_le hq, fun _ _ _ _ h => h, bel_setRow (.refl _ _) hB _⟩, ?_, (by have := hdead ⟨sz', bx.cells.take (len * sz') ++ xs, 0⟩ (b, cap); rw [d3] at this; exact this)⟩
                      have := Rel.sl (H := H) hp.length sz' 0 (len + k) b cap (RM.put_same (ρ := ρ) (id := hp.length) (x := (b, cap))) (by omega)
                      simpa using this
                    · obtain ⟨_, _, e1, e2, os, o1, o2, o3⟩ := tcells_sound (P := P) (sz := sz') (n := len) (t := .sl i sz' 0 len) (cs := (bx.cells.drop (0 * sz')).take (len * sz')) hw.drew (by simp [tcells, PV.un, hbx, d1]; omega) (.sl i sz' 0 len b cap hρ hcap)
                      cases e1
                      obtain ⟨c, hc1, hc2⟩ := append_moved (ty := ty) (base := some ⟨b, 0 * sz', none⟩) (len := len) (cap := cap - 0) (os := os) hT hX h1 h2 hsz hi' hb' z1 hll hvf' o2 (by omega) hby
                      have hkill := hw.drew.kill i ⟨bx.sz, bx.cells, 2⟩ rfl
                      have hmore := hkill.more ⟨sz', bx.cells.take (len * sz') ++ xs, 0⟩ (by rw [List.length_set]; exact hq)
                      have hal := hmore.alloc (id := hp.length) (cap := c) (bx := ⟨sz', bx.cells.take (len * sz') ++ xs, 0⟩) (arr := (os.toArray ++ (vs'.toArray ++ Builtin.zeroCells zv.cells (c - (len + k))))) (T := E) (by rw [List.getElem?_append_right (by simp)]; simp) rfl hq (by
                        rw [Array.size_append, Array.size_append, zero_cells_size, z2, ← c1]
                        simp only [List.size_toArray]
                        rw [hvl', hkl, o1, e2, ← Nat.add_mul, ← Nat.add_mul]
                        congr 1
                        omega) (by
                        rw [Array.size_append, Array.size_append]
                        simp only [List.size_toArray, List.length_append, List.length_take]
                        rw [o1, e2]
                        omega) (by
                        intro j v q hv hq
                        have := cat_rel (H := H) (ρ := ρ) (os := os) (cs := bx.cells.take (len * sz')) (us := vs') (xs := xs) (zs := (Builtin.zeroCells zv.cells (c - (len + k))).toList) (by rw [o1, e2, List.length_take]; omega) (by simpa using o3) hvr' hvl' j v q
                        refine this ?_ hq
                        rw [← Array.getElem?_toList] at hv
                        simpa using hv)
                      refine ⟨_, _, _, hc2, hal, ⟨.refl _, RM.put_le hq, fun _ _ _ _ h => h, ((Bel.refl _ _).drew).alloc hw.base _⟩, ?_, hdead _ _⟩
                      have := Rel.sl (H := H) hp.length sz' 0 (len + k) w.heap.size c (RM.put_same (ρ := ρ) (id := hp.length) (x := (w.heap.size, c))) (by omega)
                      simpa using this
                  · cases h
                · cases h
            · cases h
          · cases h
        · cases h
      · cases h
    · cases h
  · cases h
end Go.Proofs.YtfhojpnofmlkdaaDoor.Pv
