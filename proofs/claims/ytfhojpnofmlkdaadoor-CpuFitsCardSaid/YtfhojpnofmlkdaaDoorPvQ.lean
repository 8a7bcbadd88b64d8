/- Strings and bytes. -/
import Derived.Test.YtfhojpnofmlkdaaDoorPvO
import Derived.Laws.BytesString
import Derived.Lib.ConvBytes
namespace Go.Proofs.YtfhojpnofmlkdaaDoor.Pv
open Go.RowKit
set_option linter.unusedSimpArgs false
set_option linter.unusedVariables false
set_option maxHeartbeats 1000000

def pbytes : List PV → Option (List UInt8)
  | [] => some []
  | .int .u8 n :: r => (pbytes r).map (UInt8.ofNat n.toNat :: ·)
  | _ => none
def u8s (l : List UInt8) : List PV := l.map fun b => .int .u8 (b.toNat : Int)
/-- conversions, also those that read memory or make some -/
def pconvM (P : Program) (hp : List Box) (s t : TypeId) (x : PV) : Option PV :=
  match P.underlying s, P.underlying t with
  | some (.slice E), some .string =>
    match P.underlying E, telems hp 1 x with
    | some (.int .u8), some es => (pbytes es).map fun l => .str ⟨l.toArray⟩
    | _, _ => none
  | some .string, some (.slice E) =>
    match P.underlying E, x with
    | some (.int .u8), .str b => some (.lst 1 (u8s b.data.toList))
    | _, _ => none
  | _, _ => pconv P s t x
theorem pbytes_vals {H : GH} {us : List Value} : ∀ {es : List PV} {l : List UInt8}, pbytes es = some l → us.length = es.length → (∀ (i : Nat) v e, us[i]? = some v → es[i]? = some e → Rel H RM.nil v e) → ∃ ns : List Int, us = ns.map (Value.int .u8) ∧ l = ns.map fun n => UInt8.ofNat n.toNat := by
  induction us with
  | nil =>
    intro es l h hl _
    cases es with
    | nil => cases h; exact ⟨[], rfl, rfl⟩
    | cons => simp at hl
  | cons u us ih =>
    intro es l h hl hr
    cases es with
    | nil => simp at hl
    | cons e es =>
      unfold pbytes at h
      split at h
      · rename_i q; cases q
      · rename_i n r e2
        cases e2
        obtain ⟨l', h1, rfl⟩ := Option.map_eq_some_iff.1 h
        obtain ⟨ns, h2, h3⟩ := ih h1 (by simpa using hl) (fun i v e a b => hr (i + 1) v e a b)
        have h0 := hr 0 u _ rfl rfl
        cases h0
        exact ⟨n :: ns, by rw [h2]; rfl, by rw [h3]; rfl⟩
      · cases h
theorem foldl_push : ∀ (ns : List Int) (r : ByteArray), ns.foldl (fun r n => r.push (UInt8.ofNat n.toNat)) r = ⟨r.data ++ (ns.map fun n => UInt8.ofNat n.toNat).toArray⟩
  | [], r => by simp
  | n :: ns, r => by
    simp only [List.foldl_cons, List.map_cons]
    rw [foldl_push ns]
    simp [ByteArray.push]
theorem pconvM_sound {P : Program} {B : Nat → Prop} {hp hpn : List Box} {s t : TypeId} {x r : PV} {u : Value} {H : GH} {ρ : RM} {w : World} (hr : WR B H ρ w hp) (hw : WR B H ρ w hpn) (h : pconvM P hp s t x = some r) (hx : Rel H ρ u x) :
    ∃ z w' H', (convert s t u).run P w = .ok z w' ∧ Step B H ρ w H' ρ w' ∧ WR B H' ρ w' hpn ∧ Rel H' ρ z r := by
  unfold pconvM at h
  split at h
  · rename_i E h1 h2
    split at h
    · rename_i es h3 hte
      obtain ⟨l, hl, rfl⟩ := Option.map_eq_some_iff.1 h
      obtain ⟨a, cap, us, rfl, hel, hcl⟩ := telems_sound hr hte hx
      have hul : us.length = es.length := by simpa using hel.1
      obtain ⟨ns, rfl, rfl⟩ := pbytes_vals (us := us) hl hul (fun i v e hv he => by
        obtain ⟨_, ec, g1, g2⟩ := hel
        obtain ⟨e1, e2⟩ := g1 i e he
        have hi := (List.getElem?_eq_some_iff.1 he).1
        have hat : ec i = [e] := by
          match hq : ec i, e2 with
          | [c], _ =>
            rw [hq] at e1
            unfold PV.cells? at e1
            split at e1
            · cases e1
            · -- an aggregate of one cell is no byte
              rename_i cs
              exfalso
              have : ∀ (es : List PV) (l : List UInt8) (i : Nat), pbytes es = some l → es[i]? = some (PV.agg cs) → False := by
                intro es
                induction es with
                | nil => intro l i _ h; simp at h
                | cons e es ih =>
                  intro l i hp hg
                  unfold pbytes at hp
                  split at hp
                  · rename_i q; cases q
                  · rename_i e2
                    cases e2
                    obtain ⟨l', q1, _⟩ := Option.map_eq_some_iff.1 hp
                    cases i with
                    | zero => simp at hg
                    | succ i => exact ih l' i q1 (by simpa using hg)
                  · cases hp
              exact this es l i hl he
            · cases e1; rfl
        exact g2 i 0 e v hi (by rw [hat]; rfl) (by simpa using hv))
      refine ⟨.string (ns.foldl (fun r n => r.push (UInt8.ofNat n.toNat)) ByteArray.empty), w, H, ?_, .refl _ _ _ _, hw, ?_⟩
      · rw [run_convert_bytes_string w s t E a _ cap h1 h3 h2]
        cases a with
        | none =>
          cases ns with
          | nil => simp [Conv.bytesToString, Sem.run_pure]
          | cons n ns => obtain ⟨b, o, e, _⟩ := hcl 0 _ rfl; cases e
        | some p =>
          refine run_bytesToString w p _ cap ns ?_
          have e := run_loadCells_list (P := P) (w := w) p (ns.map (Value.int .u8)) (fun j v hj => by
            obtain ⟨b, o, e, h⟩ := hcl j v hj
            cases e
            rw [add_addr]; exact h)
          rw [hul] at e
          exact e
      · rw [foldl_push]
        have : (ByteArray.empty.data ++ (ns.map fun n => UInt8.ofNat n.toNat).toArray) = (ns.map fun n => UInt8.ofNat n.toNat).toArray := by simp
        rw [this]
        exact .str _
    · cases h
  · rename_i E h1 h2
    split at h
    · rename_i b h3
      cases h
      cases hx
      have hlt : ∀ c o v, H c o = some v → c < w.heap.size := fun c o v hv => cell_lt (hw.sub _ _ _ hv)
      let H' : GH := fun c o => if c = w.heap.size then (if o < b.size then some (.int .u8 (b.data.toList.getD o 0).toNat) else none) else H c o
      have hle : H.le H' := fun c o v hv => by
        have := hlt _ _ _ hv
        simp only [H', if_neg (show c ≠ w.heap.size by omega)]; exact hv
      have hold : ∀ c o v, c < w.heap.size → H' c o = some v → H c o = some v := fun c o v hc hv => by
        simpa only [H', if_neg (show c ≠ w.heap.size by omega)] using hv
      have hbel : Below w.heap.size w (Lib.bytesWorld w E b) := ⟨rfl, rfl, rfl, by rw [Lib.bytesWorld_size]; omega, fun k hk => Lib.bytesWorld_at_old w E b k hk⟩
      have hsub : ∀ c o v, H' c o = some v → (Lib.bytesWorld w E b).cell? ⟨c, o, none⟩ = some v := fun c o v hv => by
        by_cases e : c = w.heap.size
        · subst e
          simp only [H', if_true] at hv
          split at hv
          · rename_i ho
            rw [Lib.bytesWorld_cell w E b o ho]; exact hv
          · cases hv
        · simp only [H', if_neg e] at hv
          rw [Lib.bytesWorld_old w E b ⟨c, o, none⟩ (hlt _ _ _ hv)]
          exact hw.sub _ _ _ hv
      refine ⟨_, _, H', Lib.run_convert_string_bytes w s t E b h1 h2 h3, ⟨hle, .refl _, fun c o v hc hv => hold c o v (hw.base _ hc) hv, Below_bel hbel hw.base⟩, hw.keep hbel hle hold hsub, ?_⟩
      have hlen : (u8s b.data.toList).length = b.size := by unfold u8s; rw [List.length_map, Array.length_toList]; rfl
      have := elems_lst (H := H') (ρ := ρ) (a := some ⟨w.heap.size, 0, none⟩) (cap := grownCap w b.size 0 E) (sz := 1) (b := w.heap.size) (o := 0) (es := u8s b.data.toList) (us := (u8s b.data.toList).map fun p => match p with | .int k n => .int k n | _ => undef) ⟨by rw [List.length_map, Nat.mul_one], fun i => match (u8s b.data.toList)[i]? with | some e => [e] | none => [], fun i e he => ?_, fun i j c v hi hc hv => ?_⟩ ?_ (fun _ => rfl) (fun j v hv => ?_)
      · rw [hlen] at this; exact this
      · obtain ⟨x, hx, rfl⟩ : ∃ x, b.data.toList[i]? = some x ∧ PV.int .u8 (x.toNat : Int) = e := by
          unfold u8s at he; rw [List.getElem?_map] at he; exact Option.map_eq_some_iff.1 he
        simp only [he]
        exact ⟨rfl, rfl⟩
      · obtain ⟨e, he⟩ : ∃ e, (u8s b.data.toList)[i]? = some e := ⟨_, List.getElem?_eq_getElem hi⟩
        obtain ⟨x, hx, rfl⟩ : ∃ x, b.data.toList[i]? = some x ∧ PV.int .u8 (x.toNat : Int) = e := by
          have he' := he
          unfold u8s at he'; rw [List.getElem?_map] at he'; exact Option.map_eq_some_iff.1 he'
        simp only [he] at hc
        cases j with
        | zero =>
          cases hc
          rw [List.getElem?_map, Nat.mul_one, Nat.add_zero, he] at hv
          cases hv
          exact .int _ _
        | succ j => simp at hc
      · rw [hlen]
        unfold grownCap
        simp [Question.cut]
      · rw [List.getElem?_map] at hv
        obtain ⟨e, he, rfl⟩ := Option.map_eq_some_iff.1 hv
        obtain ⟨x, hx, rfl⟩ : ∃ x, b.data.toList[j]? = some x ∧ PV.int .u8 (x.toNat : Int) = e := by
          unfold u8s at he; rw [List.getElem?_map] at he; exact Option.map_eq_some_iff.1 he
        have hj : j < b.size := by
          have := (List.getElem?_eq_some_iff.1 hx).1
          rw [Array.length_toList] at this; exact this
        rw [Nat.zero_add]
        simp only [H', if_true, if_pos hj]
        simp only [List.getD, hx, Option.getD_some]
    · cases h
  · obtain ⟨z, k1, k2⟩ := pconv_sound (w := w) h hx
    exact ⟨z, w, H, k1, .refl _ _ _ _, hw, k2⟩
/-- a new block that nobody writes -/
theorem WR.know {B : Nat → Prop} {hp : List Box} {H : GH} {ρ : RM} {w : World} {arr : Array Value} {cs : List PV} {T : TypeId} (hw : WR B H ρ w hp) (hsz : arr.size = cs.length) (hr : ∀ (j : Nat) v c, arr[j]? = some v → cs[j]? = some c → Rel H RM.nil v c) :
    ∃ H', Step B H ρ w H' ρ (w.alloc (.cells arr T)) ∧ WR B H' ρ (w.alloc (.cells arr T)) hp ∧ Rel H' ρ (.pointer (some ⟨w.heap.size, 0, none⟩)) (.cptr cs) := by
  have hlt : ∀ c o v, H c o = some v → c < w.heap.size := fun c o v hv => cell_lt (hw.sub _ _ _ hv)
  let H' : GH := fun c o => if c = w.heap.size then arr[o]? else H c o
  have hle : H.le H' := fun c o v hv => by
    have := hlt _ _ _ hv
    simp only [H', if_neg (show c ≠ w.heap.size by omega)]; exact hv
  have hold : ∀ c o v, c < w.heap.size → H' c o = some v → H c o = some v := fun c o v hc hv => by
    simpa only [H', if_neg (show c ≠ w.heap.size by omega)] using hv
  have hbel : Below w.heap.size w (w.alloc (.cells arr T)) := (Below.refl _ _).alloc (Nat.le_refl _) _
  have hnew : (w.alloc (.cells arr T)).heap[w.heap.size]? = some (.cells arr T (0, 0)) := by show (w.heap.push _)[w.heap.size]? = _; simp
  have hsub : ∀ c o v, H' c o = some v → (w.alloc (.cells arr T)).cell? ⟨c, o, none⟩ = some v := fun c o v hv => by
    by_cases e : c = w.heap.size
    · subst e
      simp only [H', if_true] at hv
      rw [heap_cell hnew]; exact hv
    · simp only [H', if_neg e] at hv
      exact sub_below hw.sub hbel _ _ _ hv
  refine ⟨H', ⟨hle, .refl _, fun c o v hc hv => hold c o v (hw.base _ hc) hv, Below_bel hbel hw.base⟩, hw.keep hbel hle hold hsub, .cptr w.heap.size 0 cs (fun j => arr.getD j undef) (fun j hj => ?_) (fun j c hc => ?_)⟩
  · have hj' : j < arr.size := by omega
    simp only [H', if_true, Nat.zero_add]
    simp [Array.getD_eq_getD_getElem?, Array.getElem?_eq_getElem hj']
  · have hj' : j < arr.size := by have := (List.getElem?_eq_some_iff.1 hc).1; omega
    have e := Array.getElem?_eq_getElem hj'
    simp only [Array.getD_eq_getD_getElem?, e, Option.getD_some]
    exact (hr j _ c e hc).mono hle (.refl _)
end Go.Proofs.YtfhojpnofmlkdaaDoor.Pv
