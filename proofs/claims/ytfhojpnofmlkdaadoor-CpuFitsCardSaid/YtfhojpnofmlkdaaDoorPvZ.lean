/- Boxes that hold lists: what loads, stores and appends make of them. -/
import Derived.Test.YtfhojpnofmlkdaaDoorPvY
namespace Go.Proofs.YtfhojpnofmlkdaaDoor.Pv
open Go.RowKit
set_option linter.unusedSimpArgs false
set_option linter.unusedVariables false
set_option maxHeartbeats 1000000
theorem tk {P : Program} {G : Nat → List PV} {g : Nat} {h : List PV → Option PV} {T : Tab} (h1 : ∀ l r, h l = some r → Ok P G g l r) (h2 : TabOk P G T) : TabOk P G ((g, h) :: T) := all_cons h1 h2
theorem tn {P : Program} {G : Nat → List PV} : TabOk P G [] := all_nil
theorem tn' {P : Program} {G : Nat → List PV} : TabSOk P G [] := all_nil
theorem pload_at {P : Program} {hp : List Box} {T : TypeId} {id q n : Nat} {bx : Box} {c : PV} (hb : hp[id]? = some bx) (hst : bx.st ≤ 1) (hs : szT P T = some n) (ha : isA P T = some false) (hc : bx.cells[q]? = some c) : pload P hp T (.ptr id q) = some c := by
  unfold pload
  simp only [hb]
  rw [if_pos hst]
  unfold mk
  simp only [hs, ha]
  rw [List.head?_drop, hc]
theorem pload_agg {P : Program} {hp : List Box} {T : TypeId} {id q n : Nat} {bx : Box} {cs : List PV} (hb : hp[id]? = some bx) (hst : bx.st ≤ 1) (hs : szT P T = some n) (ha : isA P T = some true) (hl : cs.length = n) (hc : (bx.cells.drop q).take n = cs) : pload P hp T (.ptr id q) = some (.agg cs) := by
  unfold pload
  simp only [hb]
  rw [if_pos hst]
  unfold mk
  simp only [hs, ha, hc]
  rw [if_pos (by have := congrArg List.length hc; simp at this; simp; omega)]
theorem pstore_at {P : Program} {hp : List Box} {T : TypeId} {id q n sz : Nat} {cells xs : List PV} {x : PV} (hx : x.cells? = some xs) (hs : szT P T = some n) (hb : hp[id]? = some ⟨sz, cells, 0⟩) (hl : xs.length = n) (hq : q + n ≤ cells.length) (hat : xs.all PV.atom = true) : pstore P hp T (.ptr id q) x = some (hp.set id ⟨sz, cells.take q ++ xs ++ cells.drop (q + n), 0⟩) := by
  unfold pstore
  simp only [hx, hs, hb]
  rw [if_pos ⟨trivial, hl, hq, hat⟩]
theorem map_at {α β : Type} {f : α → β} {l : List α} {i : Nat} {x : α} (h : l[i]? = some x) : (l.map f)[i]? = some (f x) := by rw [List.getElem?_map, h]; rfl
theorem map_set {α β : Type} {f : α → β} (l : List α) (i : Nat) (y : α) (hi : i < l.length) : (l.map f).take i ++ [f y] ++ (l.map f).drop (i + 1) = (l.set i y).map f := by
  rw [List.map_set, List.set_eq_take_append_cons_drop, if_pos (by simpa using hi)]
  simp
theorem flat_get {α : Type} {sz : Nat} {cs : α → List PV} (hs : ∀ a, (cs a).length = sz) : ∀ (l : List α) (i : Nat) (x : α), l[i]? = some x → ((l.flatMap cs).drop (i * sz)).take sz = cs x
  | [], i, x, h => by simp at h
  | a :: l, 0, x, h => by
    simp at h; subst h
    rw [Nat.zero_mul, List.drop_zero, List.flatMap_cons, List.take_left' (hs _)]
  | a :: l, i + 1, x, h => by
    rw [List.flatMap_cons, show (i + 1) * sz = sz + i * sz by rw [Nat.add_mul]; omega, ← List.drop_drop, List.drop_left' (hs a)]
    exact flat_get hs l i x (by simpa using h)
theorem flat_set {α : Type} {sz : Nat} {cs : α → List PV} (hs : ∀ a, (cs a).length = sz) : ∀ (l : List α) (i : Nat) (y : α), i < l.length → (l.flatMap cs).take (i * sz) ++ cs y ++ (l.flatMap cs).drop (i * sz + sz) = (l.set i y).flatMap cs
  | [], i, y, h => by simp at h
  | a :: l, 0, y, h => by
    rw [Nat.zero_mul, List.take_zero, Nat.zero_add, List.flatMap_cons, List.drop_left' (hs a), List.set_cons_zero, List.flatMap_cons]; rfl
  | a :: l, i + 1, y, h => by
    have ih := flat_set hs l i y (by simpa using h)
    rw [List.set_cons_succ, List.flatMap_cons, List.flatMap_cons, ← ih, show (i + 1) * sz = sz + i * sz by rw [Nat.add_mul]; omega]
    rw [List.take_append, List.drop_append, hs a]
    rw [List.take_of_length_le (show (cs a).length ≤ sz + i * sz by rw [hs]; omega), List.drop_of_length_le (show (cs a).length ≤ sz + i * sz + sz by rw [hs]; omega)]
    rw [show sz + i * sz - sz = i * sz by omega, show sz + i * sz + sz - sz = i * sz + sz by omega]
    simp
theorem flat_in {α : Type} {sz : Nat} {cs : α → List PV} (hs : ∀ a, (cs a).length = sz) {l : List α} {i : Nat} (hi : i < l.length) : i * sz + sz ≤ (l.flatMap cs).length := by
  rw [flatMap_len hs]
  calc i * sz + sz = (i + 1) * sz := by rw [Nat.add_mul]; omega
    _ ≤ l.length * sz := Nat.mul_le_mul_right _ hi
theorem rep_map {α : Type} (f : α → List PV) (n : Nat) (a : α) : rep n (f a) = (List.replicate n a).flatMap f := by
  unfold rep
  induction n with
  | zero => rfl
  | succ n ih => rw [List.replicate_succ, List.flatten_cons, ih, List.replicate_succ, List.flatMap_cons]
theorem pmakeS_eq {P : Program} {T E : TypeId} {id n m : Nat} {z : List PV} {k k' : IntKind} (hT : P.underlying T = some (.slice E)) (hs : szT P E = some n) (hz : zeroP P E = some z) (hn : n = z.length) (hn0 : 0 < n) (hb : bytesOk P E m = true) (hm : m ≤ 1099511627776) : pmakeS P id T (.int k (m : Int)) (.int k' (m : Int)) = some (.sl id n 0 m, ⟨n, rep m z, 0⟩) := by
  unfold pmakeS
  rw [hT]
  simp only [hs, hz]
  have e40 : (2 : Int) ^ 40 = 1099511627776 := by decide
  rw [if_pos ⟨hn, hn0, by omega, by omega, by omega, by simpa using hb⟩]
  simp
theorem bytes_ok {P : Program} {E : TypeId} {n : Nat} (h : bytesOk P E 4294967296 = true) (hn : n ≤ 4294967296) : bytesOk P E n = true := by
  unfold bytesOk at h ⊢
  split at h
  · rename_i i e
    have := of_decide_eq_true h
    refine decide_eq_true ⟨this.1, Nat.le_trans ?_ this.2⟩
    exact Nat.mul_le_mul_left _ (Nat.mul_le_mul_right _ hn)
  · cases h
/-- append, one element out of a literal behind a box of a list -/
theorem pappend_one {P : Program} {hp : List Box} {T X E E' : TypeId} {sz id j len : Nat} {z cells xs : List PV} (hT : P.underlying T = some (.slice E)) (hX : P.underlying X = some (.slice E')) (hs : szT P E = some sz) (hz : zeroP P E = some z) (hn : sz = z.length) (hn0 : 0 < sz)
    (hi : hp[id]? = some ⟨sz, cells, 0⟩) (hj : hp[j]? = some ⟨sz, xs, 0⟩) (hl : xs.length = sz) (hat : xs.all PV.atom = true) (hc : len * sz ≤ cells.length) (hb : bytesOk P E (len + 1) = true) :
    pappend P hp hp.length T X (.sl id sz 0 len) (.sl j sz 0 1) = some (.sl hp.length sz 0 (len + 1), hp.set id ⟨sz, cells, 2⟩ ++ [⟨sz, cells.take (len * sz) ++ xs, 0⟩]) := by
  unfold pappend
  rw [hT, hX]
  simp only [hs, hz]
  rw [if_pos ⟨hn, hn0⟩]
  have ht : tcells hp sz (.sl j sz 0 1) = some (1, xs) := by
    unfold tcells PV.un
    simp only [hj]
    rw [if_pos ⟨by omega, trivial, by simp; omega⟩]
    simp [hl]
    exact List.take_of_length_le (by omega)
  rw [ht]
  simp only
  rw [if_pos hat, if_neg (by omega)]
  simp only [hi]
  rw [if_pos ⟨trivial, trivial, trivial, hc, hb⟩]
theorem sub_i64 {n : Nat} (h : 0 < n) (h2 : n < 9223372036854775807) : IntKind.wrap .i64 ((n : Int) - 1) = ((n - 1 : Nat) : Int) := by rw [IntKind.wrap_i64]; omega
theorem chunk_pre {α : Type} {f : α → PV} (ha : ∀ a, (f a).atom = true) : ∀ (l g : List α), chunk 1 l.length ((l ++ g).map f) = l.map f
  | [], g => rfl
  | a :: l, g => by
    rw [List.length_cons, List.cons_append, List.map_cons]
    unfold chunk
    have e0 : List.take 1 (f a :: List.map f (l ++ g)) = [f a] := rfl
    have e : elemOf 1 [f a] = f a := by show (if 1 = 1 ∧ (f a).atom = true then f a else .agg [f a]) = f a; rw [if_pos ⟨rfl, ha a⟩]
    rw [e0, e]
    show f a :: chunk 1 l.length ((l ++ g).map f) = _
    rw [chunk_pre ha l g]; rfl
theorem Fz.pre {α : Type} {hp : List Box} {id : Nat} {f : α → PV} {l g : List α} (ha : ∀ a, (f a).atom = true) (hf : ∀ d hp a, fz (d + 1) hp (f a) = some (f a, hp)) (hb : hp[id]? = some ⟨1, (l ++ g).map f, 0⟩) : fz deep hp (.sl id 1 0 l.length) = some (.lst 1 (l.map f), hp.set id ⟨1, (l ++ g).map f, 1⟩) := by
  rw [show deep = 5 + 1 from rfl, fz_sl hb (by decide) (by simp) (fun c hc => by obtain ⟨a, _, rfl⟩ := List.mem_map.1 hc; exact hf _ _ _), chunk_pre ha]
/-- append onto a list that grows -/
theorem pappO_own {P : Program} {hp : List Box} {T X E F : TypeId} {sz n i : Nat} {z es es' : List PV} {t : PV} (hT : P.underlying T = some (.slice E)) (hX : P.underlying X = some (.slice F)) (hs : szT P E = some sz) (hz : zeroP P E = some z) (hn : sz = z.length) (hn0 : 0 < sz)
    (ht : telems hp sz t = some es') (ha : es'.all atomE = true) (hi : hp[i]? = some (tik sz n)) (hl : n = es.length * sz) (hb : bytesOk P E (es.length + es'.length) = true) :
    pappM true P hp hp.length T X (.own i sz es) t = some (.own hp.length sz (es ++ es'), hp.set i ⟨sz, [], 2⟩ ++ [tik sz ((es.length + es'.length) * sz)]) := by
  unfold pappM pappO
  rw [hT, hX]
  simp only [hs, hz]
  rw [if_pos ⟨hn, hn0⟩, ht]
  simp only
  rw [if_pos ha]
  simp only [hi]
  rw [if_pos ⟨by simp [tik], by simp [tik], trivial, by simp [tik, hl], hb⟩]
theorem telems_one {hp : List Box} {j sz : Nat} {xs ys : List PV} (hj : hp[j]? = some ⟨sz, xs, 0⟩) (hl : xs.length = sz) (hy : xs.map (ren (fun _ => none) deep) = ys) : telems hp sz (.sl j sz 0 1) = some [elemOf sz ys] := by
  subst hy
  unfold telems PV.un
  simp only [hj]
  rw [if_pos ⟨by decide, trivial, by omega⟩]
  simp only [Nat.zero_mul, List.drop_zero, chunk]
  rw [List.take_of_length_le (by rw [List.length_map]; omega)]
theorem telems_lst {hp : List Box} {sz : Nat} {es : List PV} : telems hp sz (.lst sz es) = some es := by
  unfold telems PV.un
  simp only [if_true]
theorem telems_own {hp : List Box} {i sz : Nat} {es : List PV} : telems hp sz (.own i sz es) = some es := by
  unfold telems PV.un
  simp only [if_true]
theorem pidx_own {P : Program} {T : TypeId} {i sz : Nat} {es : List PV} {x : PV} : pidx P T (.own i sz es) x = pidx P T (.lst sz es) x := rfl
end Go.Proofs.YtfhojpnofmlkdaaDoor.Pv
