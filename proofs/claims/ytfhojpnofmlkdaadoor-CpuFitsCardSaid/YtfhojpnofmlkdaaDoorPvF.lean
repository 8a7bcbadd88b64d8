/- Boxes: what makes them, and appending. -/
import Derived.Test.YtfhojpnofmlkdaaDoorPvE
namespace Go.Proofs.YtfhojpnofmlkdaaDoor.Pv
open Go.RowKit
set_option linter.unusedSimpArgs false
set_option linter.unusedVariables false
set_option maxHeartbeats 1000000

/-- sequential: every box that is not gone has a place, and no place is given away ahead -/
structure SQ (ρ : RM) (hp : List Box) : Prop where
  tot : ∀ id bx, hp[id]? = some bx → bx.st ≤ 1 → ∃ x, ρ id = some x
  fresh : ∀ id, hp.length ≤ id → ρ id = none

/-- what an operation that makes one box makes: the box, and the value -/
def bytesOk (P : Program) (E : TypeId) (n : Nat) : Bool := match P.info? E with | some i => decide (0 < i.bytes ∧ 2 * (n * i.bytes) ≤ 2 ^ 48) | none => false
def rep (n : Nat) (z : List PV) : List PV := (List.replicate n z).flatten
def pmakeS (P : Program) (id : Nat) (T : TypeId) (l c : PV) : Option (PV × Box) :=
    match P.underlying T, l, c with
    | some (.slice E), .int _ a, .int _ b =>
      match szT P E, zeroP P E with
      | some n, some z => if n = z.length ∧ 0 < n ∧ 0 ≤ a ∧ a ≤ b ∧ b ≤ 2 ^ 40 ∧ bytesOk P E b.toNat = true then some (.sl id n 0 a.toNat, ⟨n, rep a.toNat z, 0⟩) else none
      | _, _ => none
    | _, _, _ => none
def pnew (P : Program) (ev : Operand → PV) (id : Nat) : Op → Option (PV × Box)
  | .alloc T => (zeroP P T).map fun z => (.ptr id 0, ⟨z.length, z, 0⟩)
  | .box _ x => ((ev x).cells?).map fun z => (.ptr id 0, ⟨z.length, z, 0⟩)
  | .buildSlice T len parts =>
    match P.underlying T with
    | some (.slice E) =>
      match szT P E, zeroP P E with
      | some n, some z => if n = z.length ∧ 0 < n ∧ len * n ≤ 2 ^ 24 then (pfill (fun i => some (i * n, n)) (rep len z) (parts.toList.map fun (i, x) => (i, ev x))).map fun cs => (.sl id n 0 len, ⟨n, cs, 0⟩) else none
      | _, _ => none
    | _ => none
  | .makeSlice T l c => pmakeS P id T (ev l) (ev c)
  | _ => none

theorem rep_len (n : Nat) (z : List PV) : (rep n z).length = n * z.length := by
  unfold rep
  induction n with
  | zero => simp
  | succ n ih => rw [List.replicate_succ, List.flatten_cons, List.length_append, ih, Nat.add_mul]; omega
theorem rep_at (z : List PV) : ∀ (n i : Nat), i < n * z.length → (rep n z)[i]? = z[i % z.length]? := by
  intro n
  induction n with
  | zero => intro i h; simp at h
  | succ n ih =>
    intro i h
    have hz : 0 < z.length := by
      rcases Nat.eq_zero_or_pos z.length with e | e
      · rw [e] at h; simp at h
      · exact e
    show (List.flatten (List.replicate (n + 1) z))[i]? = _
    rw [List.replicate_succ, List.flatten_cons]
    by_cases hi : i < z.length
    · rw [List.getElem?_append_left hi, Nat.mod_eq_of_lt hi]
    · rw [List.getElem?_append_right (by omega)]
      have := ih (i - z.length) (by rw [Nat.add_mul, Nat.one_mul] at h; omega)
      unfold rep at this
      rw [this]
      rw [Nat.mod_eq_sub_mod (show i ≥ z.length by omega)]
/-- a row of zeros -/
theorem zeros_rel {P : Program} {E : TypeId} {z : List PV} {v : Value} {H : GH} {ρ : RM} (n m : Nat) (h1 : v.cells.size = z.length) (h2 : ∀ (i : Nat) u c, v.cells[i]? = some u → z[i]? = some c → Rel H ρ u c) (hz : 0 < z.length) :
    ∀ (j : Nat) u c, ((Array.range (n * z.length)).map (v.cells[· % v.cells.size]!))[j]? = some u → (rep m z)[j]? = some c → Rel H ρ u c := by
  intro j u c hu hc
  have hj : j < m * z.length := by have := (List.getElem?_eq_some_iff.1 hc).1; rw [rep_len] at this; exact this
  rw [rep_at z m j hj] at hc
  rw [Array.getElem?_map] at hu
  obtain ⟨k, hk, rfl⟩ := Option.map_eq_some_iff.1 hu
  obtain ⟨hk1, hk2⟩ := Array.getElem?_eq_some_iff.1 hk
  simp at hk2
  subst hk2
  have hm : j % v.cells.size < v.cells.size := Nat.mod_lt _ (by omega)
  refine h2 (j % v.cells.size) _ _ ?_ (by rw [h1]; exact hc)
  rw [getElem!_pos v.cells _ hm]
  exact Array.getElem?_eq_getElem hm
/-- **an operation that makes a box**, over whatever memory the box has its place in -/
theorem pnew_sound {P : Program} {B : Nat → Prop} {pv : Operand → PV} {ev : Operand → Value} {o : Oper} {id : Nat} {r : PV} {bx : Box} {hp : List Box} {H : GH} {ρ : RM} {w : World} (hw : WR B H ρ w hp) (h : pnew P pv id o.op = some (r, bx)) (hi : hp[id]? = some bx) (hρ : ρ id = none) (hr : ∀ x ∈ o.op.operands, Rel H ρ (ev x) (pv x)) :
    ∃ z w' x, (execOp ev o).run P w = .ok (.value z) w' ∧ WR B H (ρ.put id x) w' hp ∧ Step B H ρ w H (ρ.put id x) w' ∧ Rel H (ρ.put id x) z r := by
  obtain ⟨dst, op, ty, pos, aft, gd⟩ := o
  simp only at h hr
  have step : ∀ (arr : Array Value) (T : TypeId) (x : Nat × Nat), Step B H ρ w H (ρ.put id x) (w.alloc (.cells arr T)) := fun arr T x =>
    ⟨.refl _, RM.put_le hρ, fun _ _ _ _ h => h, (Bel.refl _ _).alloc hw.base _⟩
  unfold pnew at h
  split at h
  · rename_i T
    obtain ⟨z, hz, e⟩ := Option.map_eq_some_iff.1 h
    cases e
    obtain ⟨v, h1, h2, h3⟩ := zeroP_run (w := w) hz
    refine ⟨.pointer (some ⟨w.heap.size, 0, none⟩), w.alloc (.cells v.cells T), (w.heap.size, 1), ?_, hw.alloc hi rfl hρ (by simp; omega) (by simp; omega) (h3 H ρ), step _ _ _, .ptr _ _ w.heap.size 1 RM.put_same⟩
    simp [execOp, Instr.alloc, Sem.run_bind, h1, newVar, newRow, newObj, Sem.run, World.alloc_eq]
  · rename_i T x
    obtain ⟨z, hz, e⟩ := Option.map_eq_some_iff.1 h
    cases e
    obtain ⟨h2, h3⟩ := Rel.cells (hr x (by simp [Op.operands])) hz
    refine ⟨.pointer (some ⟨w.heap.size, 0, none⟩), w.alloc (.cells (ev x).cells T), (w.heap.size, 1), ?_, hw.alloc hi rfl hρ (by simp; omega) (by simp; omega) h3, step _ _ _, .ptr _ _ w.heap.size 1 RM.put_same⟩
    simp [execOp, Instr.box, Sem.run_bind, newVar, newRow, newObj, Sem.run, World.alloc_eq]
  · rename_i T len parts
    split at h
    · rename_i E hT
      split at h
      · rename_i n z hn hz
        split at h
        · rename_i hc
          obtain ⟨c1, c2, c3⟩ := hc
          obtain ⟨cs, hcs, e⟩ := Option.map_eq_some_iff.1 h
          cases e
          obtain ⟨v, h1, h2, h3⟩ := zeroP_run (w := w) hz
          obtain ⟨arr', h7, h8, h9⟩ := pfill_sound (P := P) (parts.toList.map fun (i, x) => (i, pv x)) ((parts.map fun (i, x) => (i, ev x)).toList) (rep len z) cs ((Array.range (len * z.length)).map (v.cells[· % v.cells.size]!)) hcs (by simp) (fun i p u hp hu => by
            rw [List.getElem?_map, Array.getElem?_toList] at hp
            rw [Array.getElem?_toList, Array.getElem?_map] at hu
            obtain ⟨q, hq, rfl⟩ := Option.map_eq_some_iff.1 hp
            rw [hq] at hu; cases hu
            refine ⟨rfl, hr _ ?_⟩
            simp only [Op.operands]
            exact List.mem_toArray.2 (List.mem_map.2 ⟨q, Array.mem_toList_iff.2 (Array.mem_of_getElem? hq), rfl⟩)) (by simp [rep_len]) (zeros_rel (P := P) (E := E) len len h2 (h3 H ρ) (by omega))
          have hsz : arr'.size = len * n := by
            have := h8
            have e2 : cs.length = len * n := by
              have key : ∀ (ps : List (Nat × PV)) (a r : List PV) (pl : Nat → Option (Nat × Nat)), pfill pl a ps = some r → r.length = a.length := by
                intro ps
                induction ps with
                | nil => intro a r pl h; simp only [pfill] at h; cases h; rfl
                | cons p ps ih =>
                  intro a r pl h
                  obtain ⟨pi, px⟩ := p
                  simp only [pfill] at h
                  split at h
                  · split at h
                    · rename_i hq; rw [ih _ _ _ h]; simp; omega
                    · cases h
                  · cases h
              rw [key _ _ _ _ hcs, rep_len, c1]
            omega
          refine ⟨.slice (some ⟨w.heap.size, 0, none⟩) len len, w.alloc (.cells arr' E), (w.heap.size, len), ?_, hw.alloc hi rfl hρ (by simpa using hsz) (by show cs.length ≤ _; omega) h9, step _ _ _, ?_⟩
          · have hle : ¬ (len * n > 2 ^ 24) := by omega
            unfold execOp
            simp only [Instr.buildSlice, Sem.run_bind, r_und hT, r_size hn, Result.andThen_ok]
            rw [if_neg hle]
            by_cases h0 : len * n = 0
            · rw [if_pos h0]
              have e3 : (Array.range (len * n)).map (fun x => (#[] : Array Value)[x % (#[] : Array Value).size]!) = (Array.range (len * z.length)).map (v.cells[· % v.cells.size]!) := by
                rw [← c1, h0]; simp
              simp only [Sem.run_bind, Sem.run_pure, Result.andThen_ok]
              rw [e3, h7]
              simp [Sem.run_bind, newRow, newObj, Sem.run, World.alloc_eq]
            · rw [if_neg h0]
              simp only [Sem.run_bind, Sem.run_pure, Result.andThen_ok, h1]
              rw [show len * n = len * z.length by rw [← c1], h7]
              simp [Sem.run_bind, newRow, newObj, Sem.run, World.alloc_eq]
          · have := Rel.sl (H := H) id n 0 len w.heap.size len (RM.put_same (ρ := ρ) (id := id) (x := (w.heap.size, len))) (by omega)
            simpa using this
        · cases h
      · cases h
    · cases h
  · rename_i T l c
    unfold pmakeS at h
    split at h
    · rename_i E ka a kb b hT hl hc
      split at h
      · rename_i n z hn hz
        split at h
        · rename_i hq
          obtain ⟨c1, c2, c3, c4, c5, c6⟩ := hq
          cases h
          obtain ⟨v, h1, h2, h3⟩ := zeroP_run (w := w) hz
          have hrl := hr l (by simp [Op.operands])
          have hrc := hr c (by simp [Op.operands])
          rw [hl] at hrl; rw [hc] at hrc
          generalize hul : ev l = ul at hrl
          generalize huc : ev c = uc at hrc
          cases hrl; cases hrc
          obtain ⟨i, hie, hib⟩ : ∃ i, P.info? E = some i ∧ 2 * (b.toNat * i.bytes) ≤ 2 ^ 48 := by
            unfold bytesOk at c6
            split at c6
            · rename_i i e; exact ⟨i, e, (of_decide_eq_true c6).2⟩
            · cases c6
          have hwa : IntKind.i64.wrap a = a := by simp [IntKind.wrap, IntKind.bits, IntKind.signed]; omega
          have hwb : IntKind.i64.wrap b = b := by simp [IntKind.wrap, IntKind.bits, IntKind.signed]; omega
          have hsm : ∀ k : Int, 0 ≤ k → k ≤ b → ¬ ((i.bytes : Int) * k > 2 ^ 48) := fun k hk0 hk => by
            have e1 : (i.bytes : Int) * k ≤ i.bytes * b := Int.mul_le_mul_of_nonneg_left hk (by omega)
            have e2 : (i.bytes : Int) * b = ((b.toNat * i.bytes : Nat) : Int) := by
              rw [Int.natCast_mul, Int.toNat_of_nonneg (by omega), Int.mul_comm]
            omega
          refine ⟨.slice (some ⟨w.heap.size, 0, none⟩) a.toNat b.toNat, w.alloc (.cells ((Array.range (b.toNat * z.length)).map (v.cells[· % v.cells.size]!)) E), (w.heap.size, b.toNat), ?_, hw.alloc hi rfl hρ (by rw [Array.size_map, Array.size_range, ← c1]) (by rw [Array.size_map, Array.size_range, rep_len]; exact Nat.mul_le_mul_right _ (by omega)) (zeros_rel (P := P) (E := E) b.toNat a.toNat h2 (h3 H ρ) (by omega)), step _ _ _, ?_⟩
          · have hb0 := hsm b (by omega) (Int.le_refl _)
            have hti : (typeInfo E).run P w = .ok i w := by simp [typeInfo, hie, go_sem]
            have hro : ∀ m, (askRoom m).run P w = .ok () w := fun m => by unfold askRoom; split <;> simp [mark, Sem.run]
            unfold execOp
            simp only [Instr.makeSlice, Sem.run_bind, r_und hT, Result.andThen_ok, hul, huc, asInt, asIntOf, Sem.run_pure, hti, hwa, hwb]
            rw [if_neg (by simp; omega)]
            simp only [Sem.run_bind, hro, Result.andThen_ok, r_size hn]
            by_cases h0 : b.toNat * n = 0
            · rw [if_pos h0]
              have e3 : (Array.range (b.toNat * n)).map (fun x => (#[] : Array Value)[x % (#[] : Array Value).size]!) = (Array.range (b.toNat * z.length)).map (v.cells[· % v.cells.size]!) := by
                rw [← c1, h0]; simp
              simp only [Sem.run_bind, Sem.run_pure, Result.andThen_ok, e3]
              simp [Sem.run_bind, newRow, newObj, Sem.run, World.alloc_eq]
            · rw [if_neg h0]
              simp only [Sem.run_bind, Sem.run_pure, Result.andThen_ok, h1]
              rw [show b.toNat * n = b.toNat * z.length by rw [← c1]]
              simp [Sem.run_bind, newRow, newObj, Sem.run, World.alloc_eq]
          · have := Rel.sl (H := H) id n 0 a.toNat w.heap.size b.toNat (RM.put_same (ρ := ρ) (id := id) (x := (w.heap.size, b.toNat))) (by omega)
            simpa using this
        · cases h
      · cases h
    · cases h
  · cases h
end Go.Proofs.YtfhojpnofmlkdaaDoor.Pv
