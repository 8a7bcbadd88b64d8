/- Lists that grow: appending to what is read only. -/
import Derived.Test.YtfhojpnofmlkdaaDoorPvI
namespace Go.Proofs.YtfhojpnofmlkdaaDoor.Pv
open Go.RowKit
set_option linter.unusedSimpArgs false
set_option linter.unusedVariables false
set_option maxHeartbeats 1000000

def deep : Nat := 6
/-- other numbers for the boxes -/
def ren (m : Nat → Option Nat) : Nat → PV → PV
  | 0, _ => .any
  | d + 1, v =>
    match v with
    | .sl id sz off len => match m id with | some j => .sl j sz off len | none => .any
    | .ptr id off => match m id with | some j => .ptr j off | none => .any
    | .agg cs => .agg (cs.map (ren m d))
    | .tup cs => .tup (cs.map (ren m d))
    | .fn f cs => .fn f (cs.map (ren m d))
    | .ifc t x => .ifc t (ren m d x)
    | .own id sz es => match m id with | some j => .own j sz es | none => .lst sz es
    | v => v
theorem Tick.ren {ρ ρ' : RM} {id j : Nat} {v : Value} (h : Tick ρ id v) (e : ρ' j = ρ id) : Tick ρ' j v := by
  obtain ⟨a, len, cap, e1, h⟩ := h
  refine ⟨a, len, cap, e1, ?_⟩
  rcases h with h | ⟨b, h1, h2⟩
  · exact .inl h
  · exact .inr ⟨b, h1, e.trans h2⟩
theorem ren_rel {H : GH} {ρ ρ' : RM} {m : Nat → Option Nat} (hm : ∀ i j, m i = some j → ρ' j = ρ i) : ∀ (d : Nat) (v : Value) (p : PV), Rel H ρ v p → Rel H ρ' v (ren m d p) := by
  intro d; induction d with
  | zero => intro v p _; exact .any v
  | succ d ih =>
    intro v p h
    have L : ∀ {vs : Array Value} {cs : List PV}, vs.size = cs.length → (∀ (i : Nat) v c, vs[i]? = some v → cs[i]? = some c → Rel H ρ v c) → ∀ (i : Nat) v c, vs[i]? = some v → (cs.map (ren m d))[i]? = some c → Rel H ρ' v c := fun hl hr i v c hv hc => by
      rw [List.getElem?_map] at hc
      obtain ⟨c', hc', rfl⟩ := Option.map_eq_some_iff.1 hc
      exact ih v c' (hr i v c' hv hc')
    cases h with
    | any => exact .any _
    | bool => exact .bool _
    | int => exact .int _ _
    | str => exact .str _
    | agg vs cs hl hr => exact .agg _ _ (by simpa using hl) (L hl hr)
    | tup vs cs hl hr => exact .tup _ _ (by simpa using hl) (L hl hr)
    | nils => exact .nils
    | emp => exact .emp _
    | lst a cap sz es b o g ec hcap ha h1 he hr => exact .lst a cap sz es b o g ec hcap ha h1 he hr
    | sl id sz off len b cap hρ hc =>
      simp only [ren]
      split
      · rename_i j hj; exact .sl _ _ _ _ b cap (by rw [hm _ _ hj]; exact hρ) hc
      · exact .any _
    | cptr b o cs g h1 hr => exact .cptr b o cs g h1 hr
    | ptr id off b cap hρ =>
      simp only [ren]
      split
      · rename_i j hj; exact .ptr _ _ b cap (by rw [hm _ _ hj]; exact hρ)
      · exact .any _
    | nilp => exact .nilp
    | fn f vs cs hl hr => exact .fn _ _ _ (by simpa using hl) (L hl hr)
    | nilfn => exact .nilfn
    | ifc t v x hr => exact .ifc _ _ _ (ih _ _ hr)
    | nilifc => exact .nilifc
    | own _ id sz es hr ht =>
      simp only [ren]
      split
      · rename_i j hj; exact .own _ _ _ _ hr (ht.ren (hm _ _ hj))
      · exact hr.up

theorem rep_some {α : Type} {n j : Nat} {x c : α} (h : (List.replicate n x)[j]? = some c) : j < n ∧ c = x := by
  rw [List.getElem?_replicate] at h
  split at h
  · cases h; exact ⟨by assumption, rfl⟩
  · cases h
/-- the right to append: sz cells an element, n cells are there -/
def tik (sz n : Nat) : Box := ⟨sz, List.replicate n .any, 3⟩
/-- these values are the cells of these elements -/
def Elems (H : GH) (sz : Nat) (es : List PV) (us : List Value) : Prop :=
  us.length = es.length * sz ∧ ∃ ec : Nat → List PV, (∀ (i : Nat) e, es[i]? = some e → e.cells? = some (ec i) ∧ (ec i).length = sz) ∧ ∀ (i j : Nat) c v, i < es.length → (ec i)[j]? = some c → us[i * sz + j]? = some v → Rel H RM.nil v c
theorem Elems.mono {H H' : GH} {sz : Nat} {es : List PV} {us : List Value} (h : Elems H sz es us) (hH : H.le H') : Elems H' sz es us := by
  obtain ⟨h1, ec, h2, h3⟩ := h
  exact ⟨h1, ec, h2, fun i j c v a b d => (h3 i j c v a b d).mono hH (.refl _)⟩
theorem Elems.nil {H : GH} {sz : Nat} : Elems H sz [] [] := ⟨by simp, fun _ => [], fun i e h => by simp at h, fun i j c v h => by simp at h⟩
theorem Elems.append {H : GH} {sz : Nat} {es es' : List PV} {us us' : List Value} (h : Elems H sz es us) (h' : Elems H sz es' us') : Elems H sz (es ++ es') (us ++ us') := by
  obtain ⟨h1, ec, h2, h3⟩ := h
  obtain ⟨h1', ec', h2', h3'⟩ := h'
  refine ⟨by simp [h1, h1', Nat.add_mul], fun i => if i < es.length then ec i else ec' (i - es.length), fun i e he => ?_, fun i j c v hi hc hv => ?_⟩
  · by_cases hl : i < es.length
    · rw [List.getElem?_append_left hl] at he
      simp only [if_pos hl]; exact h2 i e he
    · rw [List.getElem?_append_right (by omega)] at he
      simp only [if_neg hl]; exact h2' _ e he
  · by_cases hl : i < es.length
    · simp only [if_pos hl] at hc
      have hj : j < sz := by
        have := (List.getElem?_eq_some_iff.1 hc).1
        rw [(h2 i _ (List.getElem?_eq_getElem hl)).2] at this; exact this
      have : i * sz + sz ≤ es.length * sz := by rw [← Nat.succ_mul]; exact Nat.mul_le_mul_right _ hl
      rw [List.getElem?_append_left (by omega)] at hv
      exact h3 i j c v hl hc hv
    · simp only [if_neg hl] at hc
      have hm : (i - es.length) * sz + es.length * sz = i * sz := by rw [← Nat.add_mul, Nat.sub_add_cancel (by omega)]
      rw [List.getElem?_append_right (by omega)] at hv
      simp at hi
      exact h3' _ j c v (by omega) hc (by rw [show i * sz + j - us.length = (i - es.length) * sz + j by omega] at hv; exact hv)
theorem lst_elems {H : GH} {ρ : RM} {a : Option Addr} {n cap sz : Nat} {es : List PV} (h : Rel H ρ (.slice a n cap) (.lst sz es)) : n = es.length ∧ es.length ≤ cap ∧ ∃ us, Elems H sz es us ∧ ∀ (j : Nat) v, us[j]? = some v → ∃ b o, a = some ⟨b, o, none⟩ ∧ H b (o + j) = some v := by
  cases h with | lst _ _ _ _ b o g ec hcap ha hH he hr =>
  refine ⟨rfl, hcap, (List.range (es.length * sz)).map g, ⟨by simp, ec, he, fun i j c v hi hc hv => ?_⟩, fun j v hv => ?_⟩
  · rw [List.getElem?_map] at hv
    obtain ⟨k, hk, rfl⟩ := Option.map_eq_some_iff.1 hv
    obtain ⟨hl, hk⟩ := List.getElem?_eq_some_iff.1 hk
    simp at hk; subst hk
    exact hr i j c hi hc
  · rw [List.getElem?_map] at hv
    obtain ⟨k, hk, rfl⟩ := Option.map_eq_some_iff.1 hv
    obtain ⟨hl, hk⟩ := List.getElem?_eq_some_iff.1 hk
    simp at hk hl; subst hk
    refine ⟨b, o, ha ?_, hH _ hl⟩
    rintro rfl; simp at hl
theorem elems_lst {H : GH} {ρ : RM} {a : Option Addr} {cap sz b o : Nat} {es : List PV} {us : List Value} (h : Elems H sz es us) (hcap : es.length ≤ cap) (ha : es ≠ [] → a = some ⟨b, o, none⟩) (hH : ∀ (j : Nat) v, us[j]? = some v → H b (o + j) = some v) : Rel H ρ (.slice a es.length cap) (.lst sz es) := by
  obtain ⟨h1, ec, h2, h3⟩ := h
  refine .lst a cap sz es b o (fun j => us.getD j undef) ec hcap ha (fun j hj => ?_) h2 (fun i j c hi hc => ?_)
  · have hj' : j < us.length := by omega
    have e := List.getElem?_eq_getElem hj'
    simp only [List.getD, e, Option.getD_some]
    exact hH j _ e
  · have hj : j < sz := by
      have := (List.getElem?_eq_some_iff.1 hc).1
      rw [(h2 i _ (List.getElem?_eq_getElem hi)).2] at this; exact this
    have : i * sz + sz ≤ es.length * sz := by rw [← Nat.succ_mul]; exact Nat.mul_le_mul_right _ hi
    have hj' : i * sz + j < us.length := by omega
    have e := List.getElem?_eq_getElem hj'
    simp only [List.getD, e, Option.getD_some]
    exact h3 i j c _ hi hc e
def atomE (e : PV) : Bool := match e.cells? with | some cs => cs.all PV.atom | none => false
theorem Elems.one {H : GH} {sz : Nat} {es : List PV} {us : List Value} (h : Elems H sz es us) (hz : 0 < sz) (ha : es.all atomE = true) : ∀ y ∈ us, y.oneCell' = true := fun y hy => by
  obtain ⟨h1, ec, h2, h3⟩ := h
  obtain ⟨q, hq⟩ := List.mem_iff_getElem?.1 hy
  have hl := (List.getElem?_eq_some_iff.1 hq).1
  have e : q / sz * sz + q % sz = q := by rw [Nat.mul_comm]; exact Nat.div_add_mod _ _
  have hi : q / sz < es.length := Nat.div_lt_of_lt_mul (by rw [Nat.mul_comm]; omega)
  obtain ⟨e1, e2⟩ := h2 _ _ (List.getElem?_eq_getElem hi)
  have hm : q % sz < (ec (q / sz)).length := by rw [e2]; exact Nat.mod_lt _ hz
  have hr := h3 _ _ _ y hi (List.getElem?_eq_getElem hm) (by rw [e]; exact hq)
  have hat := List.all_eq_true.1 ha _ (List.getElem_mem hi)
  unfold atomE at hat
  rw [e1] at hat
  exact hr.one (List.all_eq_true.1 hat _ (List.getElem_mem hm))
theorem firstCells_run {P : Program} {a : Option Addr} {n cap sz : Nat} {us : List Value} {w : World} (hl : us.length = n * sz) (hc : ∀ (j : Nat) v, us[j]? = some v → ∃ b o, a = some ⟨b, o, none⟩ ∧ w.cell? ⟨b, o + j, none⟩ = some v) : (Builtin.firstCells sz n (.slice a n cap)).run P w = .ok us.toArray w := by
  unfold Builtin.firstCells
  cases a with
  | none =>
    cases us with
    | nil => rfl
    | cons u us => obtain ⟨b, o, e, _⟩ := hc 0 u rfl; cases e
  | some p =>
    rw [← hl]
    refine run_loadCells_list (P := P) (w := w) p us fun j v hj => ?_
    obtain ⟨b, o, e, h⟩ := hc j v hj
    cases e
    rw [add_addr]; exact h
/-- the elements behind a slice -/
def telems (hp : List Box) (sz : Nat) (t : PV) : Option (List PV) :=
  match t.un with
  | .nils => some []
  | .emp => some []
  | .lst sz' es => if sz' = sz then some es else none
  | .sl id sz' off len =>
    match hp[id]? with
    | some bx => if bx.st ≤ 1 ∧ sz' = sz ∧ (off + len) * sz ≤ bx.cells.length then some (chunk sz len ((bx.cells.drop (off * sz)).map (ren (fun _ => none) deep))) else none
    | none => none
  | _ => none
theorem telems_sound {B : Nat → Prop} {hp : List Box} {sz : Nat} {t : PV} {es : List PV} {u : Value} {H : GH} {ρ : RM} {w : World} (hw : WR B H ρ w hp) (h : telems hp sz t = some es) (hx : Rel H ρ u t) :
    ∃ a cap us, u = .slice a es.length cap ∧ Elems H sz es us ∧ ∀ (j : Nat) v, us[j]? = some v → ∃ b o, a = some ⟨b, o, none⟩ ∧ w.cell? ⟨b, o + j, none⟩ = some v := by
  replace hx := hx.un
  unfold telems at h
  generalize t.un = t at h hx
  split at h
  · cases h; cases hx; exact ⟨none, 0, [], rfl, .nil, fun j v hv => by simp at hv⟩
  · cases h; cases hx with | emp a => exact ⟨a, 0, [], rfl, .nil, fun j v hv => by simp at hv⟩
  · split at h
    · rename_i e; subst e; cases h
      have hx' := hx
      cases hx' with | lst a cap =>
      obtain ⟨_, h1, us, h2, h3⟩ := lst_elems hx
      refine ⟨a, cap, us, rfl, h2, fun j v hv => ?_⟩
      obtain ⟨b, o, e, k⟩ := h3 j v hv
      exact ⟨b, o, e, hw.sub _ _ _ k⟩
    · cases h
  · rename_i id sz' off len
    split at h
    · rename_i bx hbx
      split at h
      · rename_i hc
        obtain ⟨hst, e, hle⟩ := hc
        have e := e.symm
        subst e
        cases h
        cases hx with | sl _ _ _ _ b cap hρ hcap =>
        obtain ⟨_, arr, E, h1, h2, h3, h4, _, _⟩ := hw.box _ _ _ _ hbx (by omega) hρ
        have hm : (off + len) * sz = off * sz + len * sz := Nat.add_mul _ _ _
        refine ⟨some ⟨b, off * sz, none⟩, cap - off, (arr.toList.drop (off * sz)).take (len * sz), by rw [chunk_len], ⟨by rw [chunk_len]; simp; omega, fun i => (((bx.cells.drop (off * sz)).map (ren (fun _ => none) deep)).drop (i * sz)).take sz, fun i e he => ?_, fun i j c v hi hc hv => ?_⟩, fun j v hv => ?_⟩
        · have hi : i < len := by have := (List.getElem?_eq_some_iff.1 he).1; rw [chunk_len] at this; exact this
          rw [chunk_at sz len _ i hi] at he
          cases he
          refine ⟨elemOf_cells _ _, ?_⟩
          have : i * sz + sz ≤ len * sz := by rw [← Nat.succ_mul]; exact Nat.mul_le_mul_right _ hi
          simp; omega
        · rw [List.getElem?_take] at hc hv
          split at hc
          · rw [List.getElem?_drop, List.getElem?_map, List.getElem?_drop] at hc
            obtain ⟨c0, hc0, rfl⟩ := Option.map_eq_some_iff.1 hc
            split at hv
            · rw [List.getElem?_drop, Array.getElem?_toList] at hv
              exact ren_rel (fun _ _ e => by cases e) _ _ _ (h4 _ v c0 hv hc0)
            · cases hv
          · cases hc
        · refine ⟨b, off * sz, rfl, ?_⟩
          rw [heap_cell h1]
          rw [List.getElem?_take] at hv
          split at hv
          · rw [List.getElem?_drop, Array.getElem?_toList] at hv; exact hv
          · cases hv
      · cases h
    · cases h
  · cases h

/-- append(s, t..) where s is read only: number id is the new right to append -/
def pappO (P : Program) (hp : List Box) (id : Nat) (T X : TypeId) (s t : PV) : Option (PV × List Box) :=
  match P.underlying T, P.underlying X with
  | some (.slice E), some (.slice _) =>
    match szT P E, zeroP P E with
    | some sz, some z =>
      if sz = z.length ∧ 0 < sz then
        match telems hp sz t with
        | some es' =>
          if es'.all atomE = true then
            match s with
            | .nils => if bytesOk P E es'.length = true then some (.own id sz es', hp ++ [tik sz (es'.length * sz)]) else none
            | .emp => if bytesOk P E es'.length = true then some (.own id sz es', hp ++ [tik sz (es'.length * sz)]) else none
            | .own i sz' es =>
              match hp[i]? with
              | some bx => if bx.st = 3 ∧ bx.sz = sz ∧ sz' = sz ∧ bx.cells.length = es.length * sz ∧ bytesOk P E (es.length + es'.length) = true then some (.own id sz (es ++ es'), hp.set i ⟨sz, [], 2⟩ ++ [tik sz ((es.length + es'.length) * sz)]) else none
              | none => none
            | _ => none
          else none
        | none => none
      else none
    | _, _ => none
  | _, _ => none

/-- a new block for the right to append -/
theorem WR.allocF {B : Nat → Prop} {H : GH} {ρ : RM} {w : World} {hp : List Box} {id cap sz n : Nat} {arr : Array Value} {T : TypeId} (h : WR B H ρ w hp) (hi : hp[id]? = some (tik sz n)) (hρ : ρ id = none) (h2 : arr.size = cap * sz) (h3 : n ≤ arr.size) :
    ∃ H' : GH, (∀ o, o < n → H' w.heap.size o = arr[o]?) ∧ WR B H' (ρ.put id (w.heap.size, cap)) (w.alloc (.cells arr T)) hp ∧ H.le H' ∧ ∀ b o v, b < w.heap.size → H' b o = some v → H b o = some v := by
  let H' : GH := fun b o => if b = w.heap.size then (if o < n then arr[o]? else none) else H b o
  have hle := RM.put_le (x := (w.heap.size, cap)) hρ
  have hbel : Below w.heap.size w (w.alloc (.cells arr T)) := (Below.refl _ _).alloc (Nat.le_refl _) _
  have hHH : H.le H' := fun b o v hv => by
    have := cell_lt (h.sub _ _ _ hv)
    simp only [H', if_neg (show b ≠ w.heap.size by omega)]; exact hv
  have hlt : ∀ id' bx' b c, hp[id']? = some bx' → bx'.st ≠ 2 → ρ id' = some (b, c) → b < w.heap.size := fun id' bx' b c a1 a2 a3 => (h.box _ _ _ _ a1 a2 a3).2.lt
  have hnew : (w.alloc (.cells arr T)).heap[w.heap.size]? = some (.cells arr T (0, 0)) := by show (w.heap.push _)[w.heap.size]? = _; simp
  refine ⟨H', fun o ho => by simp only [H', if_true, if_pos ho], ⟨fun b o v hv => ?_, base_le h.base hbel.size, fun id' bx' b c a1 a2 a3 => ?_, fun i j bi bj b c c' a1 a2 a3 a4 a5 a6 => ?_⟩, hHH, fun b o v hb hv => ?_⟩
  · by_cases e : b = w.heap.size
    · subst e
      simp only [H', if_true] at hv
      split at hv
      · rw [heap_cell hnew]; exact hv
      · cases hv
    · simp only [H', if_neg e] at hv
      exact sub_below h.sub hbel _ _ _ hv
  · unfold RM.put at a3
    split at a3
    · rename_i e; subst e
      cases a3
      rw [hi] at a1; cases a1
      refine ⟨fun hk => Nat.lt_irrefl _ (h.base _ hk), arr, T, hnew, h2, by simpa [tik] using h3, fun j v c hv hc => ?_, (fun e => by cases e), fun _ => ⟨fun o ho => ?_, fun j c hc => ?_⟩⟩
      · rw [(rep_some hc).2]; exact .any _
      · have ho' : n ≤ o := by simpa [tik] using ho
        simp only [H', if_true]
        exact if_neg (by omega)
      · obtain ⟨hj, rfl⟩ := rep_some hc
        refine ⟨arr[j]'(by omega), Array.getElem?_eq_getElem (by omega), ?_, .any _⟩
        simp only [H', if_true, if_pos hj]
        exact Array.getElem?_eq_getElem (by omega)
    · obtain ⟨hB, hbx⟩ := h.box _ _ _ _ a1 a2 a3
      have hb := hbx.lt
      exact ⟨hB, hbx.keep (hbel.block b hbx.lt) hHH hle (fun o v hv => by simpa only [H', if_neg (show b ≠ w.heap.size by omega)] using hv)⟩
  · unfold RM.put at a5 a6
    split at a5 <;> split at a6
    · rename_i e1 e2; exact e1.trans e2.symm
    · cases a5; exact absurd (hlt _ _ _ _ a2 a4 a6) (Nat.lt_irrefl _)
    · cases a6; exact absurd (hlt _ _ _ _ a1 a3 a5) (Nat.lt_irrefl _)
    · exact h.inj i j bi bj b c c' a1 a2 a3 a4 a5 a6
  · simpa only [H', if_neg (show b ≠ w.heap.size by omega)] using hv
/-- more cells behind what is read only -/
theorem WR.growF {B : Nat → Prop} {H : GH} {ρ : RM} {w : World} {hp : List Box} {i b cap n : Nat} {bx : Box} {arr : Array Value} {T : TypeId} (h : WR B H ρ w hp) (hi : hp[i]? = some bx) (hst : bx.st = 3) (hn : bx.cells.length = n) (hρ : ρ i = some (b, cap)) (ha : w.heap[b]? = some (.cells arr T (0, 0))) (us : List Value) (hfit : n + us.length ≤ arr.size) :
    ∃ H' : GH, (∀ o v, us[o]? = some v → H' b (n + o) = some v) ∧ WR B H' ρ (w.setRow b (arr.toList.take n ++ us ++ arr.toList.drop (n + us.length)).toArray) (hp.set i (tik bx.sz (n + us.length))) ∧ H.le H' ∧ ∀ b o v, B b → H' b o = some v → H b o = some v := by
  obtain ⟨hB, arr0, T0, a1, a2, a3, a4, a5, a6⟩ := h.box i bx b cap hi (by omega) hρ
  rw [ha] at a1; cases a1
  obtain ⟨m1, m2⟩ := a6 (.inr hst)
  let arr' := (arr.toList.take n ++ us ++ arr.toList.drop (n + us.length)).toArray
  let H' : GH := fun b' o => if b' = b ∧ n ≤ o ∧ o < n + us.length then us[o - n]? else H b' o
  have hsz : arr'.size = arr.size := by simp [arr']; omega
  have hml : (arr.toList.take n).length = n := by simp; omega
  have lo : ∀ o, o < n → arr'[o]? = arr[o]? := fun o ho => by
    simp only [arr', List.getElem?_toArray]
    rw [List.append_assoc, List.getElem?_append_left (by omega), List.getElem?_take_of_lt ho, Array.getElem?_toList]
  have mid : ∀ o, n ≤ o → o < n + us.length → arr'[o]? = us[o - n]? := fun o h1 h2 => by
    simp only [arr', List.getElem?_toArray]
    rw [List.append_assoc, List.getElem?_append_right (by omega), hml, List.getElem?_append_left (by omega)]
  have hHH : H.le H' := fun b' o v hv => by
    simp only [H']
    rw [if_neg]
    · exact hv
    · rintro ⟨rfl, h1, _⟩
      rw [m1 o (by omega)] at hv; cases hv
  have hoth : ∀ k, k ≠ b → (w.setRow b arr').heap[k]? = w.heap[k]? := fun k hk => setRow_other w b k arr' hk
  have hnew := setRow_heap w b arr arr' T _ ha
  have hne : ∀ c o v, c ≠ b → H' c o = some v → H c o = some v := fun c o v hc hv => by
    simpa only [H', if_neg (show ¬ (c = b ∧ n ≤ o ∧ o < n + us.length) from fun h => hc h.1)] using hv
  refine ⟨H', fun o v hv => ?_, ⟨fun b' o v hv => ?_, by rw [setRow_size]; exact h.base, fun j bj c cap' q1 q2 q3 => ?_, fun j k bj bk c c1 c2 q1 q2 q3 q4 q5 q6 => ?_⟩, hHH, fun b' o v hb hv => hne b' o v (fun e => hB (e ▸ hb)) hv⟩
  · have := (List.getElem?_eq_some_iff.1 hv).1
    simp only [H']
    rw [if_pos ⟨trivial, by omega, by omega⟩, Nat.add_sub_cancel_left]
    exact hv
  · by_cases e : b' = b
    · subst e
      rw [heap_cell hnew]
      by_cases hc : n ≤ o ∧ o < n + us.length
      · simp only [H', if_pos (show b' = b' ∧ n ≤ o ∧ o < n + us.length from ⟨rfl, hc⟩)] at hv
        rw [mid o hc.1 hc.2]; exact hv
      · simp only [H', if_neg (show ¬ (b' = b' ∧ n ≤ o ∧ o < n + us.length) from fun h => hc h.2)] at hv
        have ho : o < n := by
          rcases Nat.lt_or_ge o n with h | h
          · exact h
          · rw [m1 o (by omega)] at hv; cases hv
        rw [lo o ho, ← heap_cell ha]
        exact h.sub _ _ _ hv
    · rw [cell_setRow_other w b arr' ⟨b', o, none⟩ e]
      exact h.sub _ _ _ (hne _ _ _ e hv)
  · rcases ext_set q1 with ⟨rfl, rfl, _⟩ | ⟨hnj, q1⟩
    · rw [hρ] at q3; cases q3
      refine ⟨hB, arr', T, hnew, by rw [hsz]; exact a2, by simp [tik]; omega, fun j v c hv hc => ?_, (fun e => by cases e), fun _ => ⟨fun o ho => ?_, fun j c hc => ?_⟩⟩
      · rw [(rep_some hc).2]; exact .any _
      · have ho' : n + us.length ≤ o := by simpa [tik] using ho
        simp only [H']
        rw [if_neg (by rintro ⟨_, _, _⟩; omega)]
        exact m1 o (by omega)
      · obtain ⟨hj, rfl⟩ := rep_some hc
        by_cases hjn : j < n
        · obtain ⟨v, k1, k2, _⟩ := m2 j _ (List.getElem?_eq_getElem (by omega))
          exact ⟨v, by rw [lo j hjn]; exact k1, hHH _ _ _ k2, .any _⟩
        · have hj2 : j - n < us.length := by omega
          refine ⟨us[j - n], by rw [mid j (by omega) hj]; exact List.getElem?_eq_getElem hj2, ?_, .any _⟩
          simp only [H']
          rw [if_pos ⟨trivial, by omega, hj⟩]
          exact List.getElem?_eq_getElem hj2
    · obtain ⟨hB', hbx'⟩ := h.box _ _ _ _ q1 q2 q3
      have hc : c ≠ b := by rintro rfl; exact hnj (h.inj _ _ _ _ _ _ _ q1 hi q2 (by omega) q3 hρ)
      exact ⟨hB', hbx'.keep (hoth c hc) hHH (.refl _) (fun o v => hne c o v hc)⟩
  · have ex : ∀ (k : Nat) (bk : Box), (hp.set i (tik bx.sz (n + us.length)))[k]? = some bk → bk.st ≠ 2 → ∃ bk' : Box, hp[k]? = some bk' ∧ bk'.st ≠ 2 := fun k bk e1 e2 => by
      rcases ext_set e1 with ⟨rfl, rfl, _⟩ | ⟨_, e1⟩
      · exact ⟨bx, hi, by omega⟩
      · exact ⟨bk, e1, e2⟩
    obtain ⟨_, e1, e2⟩ := ex _ _ q1 q3
    obtain ⟨_, e3, e4⟩ := ex _ _ q2 q4
    exact h.inj _ _ _ _ _ _ _ e1 e3 e2 e4 q5 q6
theorem SQ.fr {ρ : RM} {hp : List Box} (h : SQ ρ hp) (bx : Box) (hb : 1 < bx.st) (ρ' : RM) (h1 : ∀ i, i ≠ hp.length → ρ' i = ρ i) : SQ ρ' (hp ++ [bx]) := by
  refine ⟨fun id b e1 e2 => ?_, fun id e1 => ?_⟩
  · by_cases e : id = hp.length
    · subst e; simp at e1; subst e1; omega
    · have hl : id < hp.length := by have := (List.getElem?_eq_some_iff.1 e1).1; simp at this; omega
      rw [List.getElem?_append_left hl] at e1
      rw [h1 id e]; exact h.tot id b e1 e2
  · simp at e1
    rw [h1 id (by omega)]
    exact h.fresh id (by omega)
/-- where there is no room and nothing yet -/
theorem pappO_fresh {P : Program} {id sz : Nat} {B : Nat → Prop} {hpn : List Box} {T X ty E F : TypeId} {ts : Array TypeId} {es z0 : List PV} {a at' : Option Addr} {capt : Nat} {vs : List Value} {H : GH} {ρ : RM} {w : World} (hw : WR B H ρ w hpn) (hT : ts[0]? = some T) (hX : ts[1]? = some X) (h1 : P.underlying T = some (.slice E)) (h2 : P.underlying X = some (.slice F)) (hs : szT P E = some sz) (hz : zeroP P E = some z0) (c1 : sz = z0.length) (c2 : 0 < sz)
    (hel : Elems H sz es vs) (hcl : ∀ (j : Nat) v, vs[j]? = some v → ∃ b o, at' = some ⟨b, o, none⟩ ∧ w.cell? ⟨b, o + j, none⟩ = some v) (hby : bytesOk P E es.length = true) (hid : ρ id = none) (hbx : hpn[id]? = some (tik sz (es.length * sz))) :
    ∃ z w' H' ρ', (Builtin.append_ ts ty #[.slice a 0 0, .slice at' es.length capt]).run P w = .ok z w' ∧ WR B H' ρ' w' hpn ∧ Step B H ρ w H' ρ' w' ∧ Rel H' ρ' z (.own id sz es) ∧ ∀ i, i ≠ id → ρ' i = ρ i := by
  have hl : vs.length = es.length * sz := hel.1
  have hll : (Builtin.lenOf (.slice at' es.length capt)).run P w = .ok es.length w := by simp [Builtin.lenOf]
  have hf : (Builtin.firstCells sz es.length (.slice at' es.length capt)).run P w = .ok vs.toArray w := firstCells_run hl hcl
  have hf' : (Builtin.firstCells sz es.length (.slice at' es.length capt)).run P w.drew = .ok vs.toArray w.drew := firstCells_run hl hcl
  by_cases hk0 : es = []
  · subst hk0
    have e0 : vs = [] := List.eq_nil_of_length_eq_zero (by simpa using hl)
    subst e0
    refine ⟨.slice a 0 0, w, H, ρ, ?_, hw, .refl _ _ _ _, .own _ _ _ _ (elems_lst (b := 0) (o := 0) (a := a) (cap := 0) .nil (Nat.le_refl _) (fun h => absurd rfl h) (fun j v hv => by simp at hv)) ⟨a, 0, 0, rfl, .inl rfl⟩, fun _ _ => rfl⟩
    have := append_room (P := P) (ty := ty) (len := 0) (cap := 0) (base := a) (w := w) (w' := w) hT hX h1 h2 hs hll hf (Nat.le_refl _) (by cases a <;> simp [storeCells])
    simpa using this
  · have hpos : 0 < es.length := List.length_pos_iff.2 hk0
    unfold bytesOk at hby
    split at hby
    · rename_i i hi
      obtain ⟨hby', hb'⟩ := of_decide_eq_true hby
      obtain ⟨zv, z1, z2, z3⟩ := zeroP_run (w := w.drew) hz
      obtain ⟨c, hc1, hc2⟩ := append_moved (ty := ty) (base := a) (len := 0) (cap := 0) (os := []) hT hX h1 h2 hs hi (by simpa using hb') z1 hll hf' (by cases a <;> simp [Builtin.firstCells, loadCells, loadCellsFrom]) (by omega) hby'
      have hasz : (vs.toArray ++ Builtin.zeroCells zv.cells (c - es.length)).size = c * sz := by
        rw [Array.size_append, zero_cells_size, z2, ← c1]
        simp only [List.size_toArray]
        rw [hl, ← Nat.add_mul]; congr 1; omega
      obtain ⟨H', k1, k2, k3, k4⟩ := hw.drew.allocF (id := id) (cap := c) (arr := vs.toArray ++ Builtin.zeroCells zv.cells (c - es.length)) (T := E) hbx hid hasz (by rw [hasz]; exact Nat.mul_le_mul_right _ (by omega))
      have hat : ∀ (j : Nat) v, vs[j]? = some v → H' w.heap.size (0 + j) = some v := fun j v hv => by
        have hj := (List.getElem?_eq_some_iff.1 hv).1
        have := k1 j (by omega)
        rw [Nat.zero_add]
        refine Eq.trans this ?_
        rw [Array.getElem?_append_left (by simpa using hj)]
        simpa using hv
      refine ⟨.slice (some ⟨w.heap.size, 0, none⟩) es.length c, _, H', _, by simpa using hc2, by simpa using k2, ⟨k3, RM.put_le hid, fun b o v hb hv => k4 b o v (hw.base _ hb) hv, ((Bel.refl _ _).drew).alloc hw.base _⟩, ?_, fun i hi => by unfold RM.put; rw [if_neg hi]⟩
      exact .own _ _ _ _ (elems_lst (hel.mono k3) (by omega) (fun _ => rfl) hat) ⟨_, _, _, rfl, .inr ⟨_, rfl, RM.put_same⟩⟩
    · cases hby
theorem pappO_inv {P : Program} {hp hp' : List Box} {id : Nat} {T X : TypeId} {s t r : PV} (h : pappO P hp id T X s t = some (r, hp')) (hs : s = .nils ∨ s = .emp) :
    ∃ E F sz z0 es', P.underlying T = some (.slice E) ∧ P.underlying X = some (.slice F) ∧ szT P E = some sz ∧ zeroP P E = some z0 ∧ sz = z0.length ∧ 0 < sz ∧ telems hp sz t = some es' ∧ bytesOk P E es'.length = true ∧ r = .own id sz es' ∧ hp' = hp ++ [tik sz (es'.length * sz)] := by
  unfold pappO at h
  split at h
  · rename_i E F h1 h2
    split at h
    · rename_i sz z0 hsz hz
      split at h
      · rename_i hc
        split at h
        · rename_i es' hte
          split at h
          · rcases hs with rfl | rfl
            · simp only at h
              split at h
              · rename_i hby; cases h; exact ⟨E, F, sz, z0, es', h1, h2, hsz, hz, hc.1, hc.2, hte, hby, rfl, rfl⟩
              · cases h
            · simp only at h
              split at h
              · rename_i hby; cases h; exact ⟨E, F, sz, z0, es', h1, h2, hsz, hz, hc.1, hc.2, hte, hby, rfl, rfl⟩
              · cases h
          · cases h
        · cases h
      · cases h
    · cases h
  · cases h
theorem pappO_sound {P : Program} {B : Nat → Prop} {hp hp' : List Box} {T X ty : TypeId} {ts : Array TypeId} {s t r : PV} {us ut : Value} {H : GH} {ρ : RM} {w : World} (hw : WR B H ρ w hp) (hsq : SQ ρ hp) (hT : ts[0]? = some T) (hX : ts[1]? = some X) (hs : Rel H ρ us s) (ht : Rel H ρ ut t) (h : pappO P hp hp.length T X s t = some (r, hp')) :
    ∃ z w' H' ρ', (Builtin.append_ ts ty #[us, ut]).run P w = .ok z w' ∧ WR B H' ρ' w' hp' ∧ Step B H ρ w H' ρ' w' ∧ Rel H' ρ' z r ∧ SQ ρ' hp' := by
  have hq := hsq.fresh _ (Nat.le_refl _)
  unfold pappO at h
  split at h
  · rename_i E F h1 h2
    split at h
    · rename_i sz z0 hsz hz
      split at h
      · rename_i hc
        obtain ⟨c1, c2⟩ := hc
        split at h
        · rename_i es' hte
          obtain ⟨at', capt, vs, rfl, hel, hcl⟩ := telems_sound hw hte ht
          split at h
          · rename_i hat
            have fresh : ∀ (a : Option Addr), (if bytesOk P E es'.length = true then some (PV.own hp.length sz es', hp ++ [tik sz (es'.length * sz)]) else none) = some (r, hp') →
                ∃ z w' H' ρ', (Builtin.append_ ts ty #[.slice a 0 0, .slice at' es'.length capt]).run P w = .ok z w' ∧ WR B H' ρ' w' hp' ∧ Step B H ρ w H' ρ' w' ∧ Rel H' ρ' z r ∧ SQ ρ' hp' := fun a hm => by
              split at hm
              · rename_i hby
                cases hm
                obtain ⟨z, w', H', ρ', k1, k2, k3, k4, k5⟩ := pappO_fresh (ty := ty) (a := a) (capt := capt) (hw.more (tik sz (es'.length * sz)) hq) hT hX h1 h2 hsz hz c1 c2 hel hcl hby hq (by simp)
                exact ⟨z, w', H', ρ', k1, k2, k3, k4, hsq.fr _ (by simp [tik]) _ k5⟩
              · cases hm
            split at h
            · cases hs; exact fresh none h
            · cases hs with | emp a => exact fresh a h
            · rename_i i sz' es
              split at h
              · rename_i bx hbx
                split at h
                · rename_i hcc
                  obtain ⟨d1, d2, d3, d4, hby⟩ := hcc
                  subst d3
                  cases h
                  cases hs with | own _ _ _ _ hls htk =>
                  obtain ⟨a, n, cap, rfl, htk⟩ := htk
                  obtain ⟨rfl, hcap, us, hus, hcu⟩ := lst_elems hls
                  have hul : us.length = es.length * sz' := hus.1
                  have hl : vs.length = es'.length * sz' := hel.1
                  have hll : (Builtin.lenOf (.slice at' es'.length capt)).run P w = .ok es'.length w := by simp [Builtin.lenOf]
                  have hf : (Builtin.firstCells sz' es'.length (.slice at' es'.length capt)).run P w = .ok vs.toArray w := firstCells_run hl hcl
                  have hf' : (Builtin.firstCells sz' es'.length (.slice at' es'.length capt)).run P w.drew = .ok vs.toArray w.drew := firstCells_run hl hcl
                  have hdead : ∀ ρ' : RM, (∀ j, j ≠ hp.length → ρ' j = ρ j) → SQ ρ' (hp.set i ⟨sz', [], 2⟩ ++ [tik sz' ((es.length + es'.length) * sz')]) := fun ρ' h => by
                    refine (hsq.kill i ⟨sz', [], 2⟩ (by simp)).fr _ (by simp [tik]) ρ' (fun j hj => h j (by simpa using hj))
                  by_cases hroom : es.length + es'.length ≤ cap
                  · rcases htk with h0 | ⟨b, rfl, hρ⟩
                    · -- no room at all: nothing is there, nothing comes
                      have e1 : es = [] := List.eq_nil_of_length_eq_zero (by omega)
                      have e2 : es' = [] := List.eq_nil_of_length_eq_zero (by omega)
                      subst e1 e2
                      have e0 : vs = [] := List.eq_nil_of_length_eq_zero (by simpa using hl)
                      subst e0
                      subst h0
                      have hrun := append_room (P := P) (ty := ty) (len := 0) (cap := 0) (base := a) (w := w) (w' := w) hT hX h1 h2 hsz hll hf (Nat.le_refl _) (by cases a <;> simp [storeCells])
                      refine ⟨.slice a 0 0, w, H, ρ, by simpa using hrun, (hw.kill i ⟨sz', [], 2⟩ rfl).more _ (by rw [List.length_set]; exact hq), .refl _ _ _ _, ?_, hdead ρ fun _ _ => rfl⟩
                      exact .own _ _ _ _ (elems_lst (b := 0) (o := 0) (a := a) (cap := 0) .nil (Nat.le_refl _) (fun h => absurd rfl h) (fun j v hv => by simp at hv)) ⟨a, 0, 0, rfl, .inl rfl⟩
                    · obtain ⟨hB, arr, F', a1, a2, a3, a4, a5, _⟩ := hw.box _ _ _ _ hbx (by omega) hρ
                      have hsize : arr.size = cap * sz' := by rw [a2, d2]
                      have hfit : es.length * sz' + vs.length ≤ arr.size := by rw [hsize, hl, ← Nat.add_mul]; exact Nat.mul_le_mul_right _ hroom
                      have e := run_storeCells_at (P := P) b (es.length * sz') F' vs 0 arr w a1 (by omega) (hel.one c2 hat)
                      have hrun := append_room (P := P) (ty := ty) (len := es.length) (cap := cap) (base := some ⟨b, 0, none⟩) (w := w) hT hX h1 h2 hsz hll hf hroom (by
                        simp only [add_addr, Nat.zero_add]
                        exact e)
                      obtain ⟨H', g1, g2, g3, g4⟩ := hw.growF hbx d1 d4 hρ a1 vs hfit
                      have hren := g2.rename (i := i) (b := b) (cap := cap) (bx := tik bx.sz (es.length * sz' + vs.length)) (bz := ⟨sz', [], 2⟩) (by rw [List.getElem?_set_self (List.getElem?_eq_some_iff.1 hbx).1]) (by simp [tik]) hρ (by rw [List.length_set]; exact hq) rfl
                      have et : tik bx.sz (es.length * sz' + vs.length) = tik sz' ((es.length + es'.length) * sz') := by rw [d2, hl, ← Nat.add_mul]
                      rw [List.set_set, List.length_set, et] at hren
                      simp only [Nat.add_zero] at hrun
                      refine ⟨_, _, H', _, hrun, hren, ⟨g3, RM.put_le hq, g4, bel_setRow (.refl _ _) hB _⟩, ?_, hdead _ fun j hj => by unfold RM.put; rw [if_neg hj]⟩
                      rw [← List.length_append]
                      refine .own _ _ _ _ (elems_lst (b := b) (o := 0) ((hus.mono g3).append (hel.mono g3)) (by rw [List.length_append]; exact hroom) (fun _ => rfl) (fun j v hv => ?_)) ⟨_, _, _, rfl, .inr ⟨_, rfl, RM.put_same⟩⟩
                      rw [Nat.zero_add]
                      by_cases hj : j < us.length
                      · rw [List.getElem?_append_left hj] at hv
                        obtain ⟨b', o', e1, e2⟩ := hcu j v hv
                        cases e1
                        rw [Nat.zero_add] at e2
                        exact g3 _ _ _ e2
                      · rw [List.getElem?_append_right (by omega)] at hv
                        have := g1 _ v hv
                        rwa [show es.length * sz' + (j - us.length) = j by omega] at this
                  · have hcu' : ∀ (j : Nat) v, us[j]? = some v → ∃ b o, a = some ⟨b, o, none⟩ ∧ w.drew.cell? ⟨b, o + j, none⟩ = some v := fun j v hv => by
                      obtain ⟨b, o, e, k⟩ := hcu j v hv
                      exact ⟨b, o, e, hw.sub _ _ _ k⟩
                    have hfo : (Builtin.firstCells sz' es.length (.slice a es.length cap)).run P w.drew = .ok us.toArray w.drew := firstCells_run hul hcu'
                    unfold bytesOk at hby
                    split at hby
                    case h_2 => cases hby
                    rename_i i' hi'
                    obtain ⟨hby', hb'⟩ := of_decide_eq_true hby
                    obtain ⟨zv, z1, z2, z3⟩ := zeroP_run (w := w.drew) hz
                    obtain ⟨c, hc1, hc2⟩ := append_moved (ty := ty) (base := a) (len := es.length) (cap := cap) (os := us) hT hX h1 h2 hsz hi' hb' z1 hll hf' hfo (by omega) hby'
                    have hasz : (us.toArray ++ (vs.toArray ++ Builtin.zeroCells zv.cells (c - (es.length + es'.length)))).size = c * sz' := by
                      rw [Array.size_append, Array.size_append, zero_cells_size, z2, ← c1]
                      simp only [List.size_toArray]
                      rw [hl, hul, ← Nat.add_mul, ← Nat.add_mul]
                      congr 1; omega
                    have hmore := (hw.drew.kill i ⟨sz', [], 2⟩ rfl).more (tik sz' ((es.length + es'.length) * sz')) (by rw [List.length_set]; exact hq)
                    obtain ⟨H', k1, k2, k3, k4⟩ := hmore.allocF (id := hp.length) (sz := sz') (n := (es.length + es'.length) * sz') (cap := c) (arr := us.toArray ++ (vs.toArray ++ Builtin.zeroCells zv.cells (c - (es.length + es'.length)))) (T := E) (by rw [← List.length_set (as := hp) (i := i) (a := (⟨sz', [], 2⟩ : Box)), List.getElem?_append_right (Nat.le_refl _)]; simp) hq hasz (by rw [hasz]; exact Nat.mul_le_mul_right _ hc1)
                    refine ⟨_, _, H', _, hc2, k2, ⟨k3, RM.put_le hq, fun b o v hb hv => k4 b o v (hw.base _ hb) hv, ((Bel.refl _ _).drew).alloc hw.base _⟩, ?_, hdead _ fun j hj => by unfold RM.put; rw [if_neg hj]⟩
                    rw [← List.length_append]
                    refine .own _ _ _ _ (elems_lst (b := w.heap.size) (o := 0) ((hus.mono k3).append (hel.mono k3)) (by rw [List.length_append]; exact hc1) (fun _ => rfl) (fun j v hv => ?_)) ⟨_, _, _, rfl, .inr ⟨_, rfl, RM.put_same⟩⟩
                    have hj := (List.getElem?_eq_some_iff.1 hv).1
                    rw [List.length_append, hul, hl, ← Nat.add_mul] at hj
                    have := k1 j hj
                    rw [Nat.zero_add]
                    refine Eq.trans this ?_
                    rw [← Array.append_assoc, Array.getElem?_append_left (by simp; rw [hul, hl, ← Nat.add_mul]; exact hj)]
                    simpa using hv
                · cases h
              · cases h
            · cases h
          · cases h
        · cases h
      · cases h
    · cases h
  · cases h
end Go.Proofs.YtfhojpnofmlkdaaDoor.Pv
