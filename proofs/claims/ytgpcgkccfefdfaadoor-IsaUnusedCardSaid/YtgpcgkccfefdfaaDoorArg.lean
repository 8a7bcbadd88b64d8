/- An instruction that came in as a parameter: its five numbers; and the table out of what the row lists. -/
import Derived.Test.YtgpcgkccfefdfaaDoorRows
import Derived.WalkKit
import Derived.ProofKit
import Derived.OpenShut
import Derived.Below
import Derived.Lib.Hide
import Derived.Test.YtgpcgkccfefdfaaDoorAwake
import Derived.Test.YtgpcgkccfefdfaaDoorRefI
import Derived.Test.YtgpcgkccfefdfaaDoorRefM
import Derived.Test.YtgpcgkccfefdfaaDoorRefT
namespace Go.Proofs.YtgpcgkccfefdfaaDoor
open Go.ChangeShapes Go.WideShapes Go.ChangeAt Go.RowKit
set_option linter.unusedSimpArgs false
set_option linter.unusedVariables false
theorem trod_fields {H : Type} {enc : TypeId × Value → H} {P : Program} {w : World} {base : Nat} {sp : Nat → Bool} {held : Bool} {fuel : Nat} {t : TypeId} {fs : Array Field} {cs : List Value} {x : DataW H × List MemPlace}
    (ht : P.underlying t = some (.struct fs)) (h : DataW.trod enc P w base sp held fuel t cs = some x) :
    ∃ (xs : List (DataW H × List MemPlace)) (m : Nat), fuel = m + 1 ∧ x.1 = .agg (xs.map (·.1)) ∧ cs.length = P.cellsOf t ∧
      ∀ (i : Nat) (f : Field), fs.toList[i]? = some f → ∃ y, xs[i]? = some y ∧ DataW.trod enc P w base sp held m f.type ((cs.drop f.offset).take (P.cellsOf f.type)) = some y := by
  cases fuel with
  | zero => simp [DataW.trod] at h
  | succ m =>
    simp only [DataW.trod, ht] at h
    split at h
    · rename_i hl
      obtain ⟨xs, hm, hx⟩ := Option.map_eq_some_iff.1 h
      refine ⟨xs, m, rfl, by rw [← hx], hl, fun i f hf => ?_⟩
      have hg := mapM_some_get hm i f hf
      have hlen := mapM_some_length hm
      have hlt : i < xs.length := by
        rcases Nat.lt_or_ge i xs.length with h1 | h1
        · exact h1
        · rw [List.getElem?_eq_none (by omega)] at hf; cases hf
      rw [List.getElem?_eq_getElem hlt] at hg ⊢
      exact ⟨_, rfl, hg⟩
    · cases h
theorem open_instr {H : Type} {enc : TypeId × Value → H} {w : World} {base b0 : Nat} {sp : Nat → Bool} {held : Bool} {r : Reach} {v : Value} {d : DataW H} {p : List MemPlace}
    (hv : Value.okWide Tryd.prog w r b0 23 v) (h : DataW.Trod enc Tryd.prog w base sp held 23 v d p) :
    ∃ k a b c e : Int, v = .agg #[.int .u8 k, .int .i64 a, .int .i64 b, .int .i64 c, .int .i64 e] ∧ (Lit.int .u8 k).wf = true := by
  obtain ⟨cs, rfl, hsz⟩ := okWide_struct Tryd.underlying23 hv
  obtain ⟨fuel, hf⟩ := h
  obtain ⟨xs, m, rfl, _, hlen, hel⟩ := trod_fields Tryd.underlying23 hf
  have hC : Tryd.prog.cellsOf 23 = 5 := by kernel_rfl
  have h5 : Tryd.prog.cellsOf 5 = 1 := by kernel_rfl
  have h3 : Tryd.prog.cellsOf 3 = 1 := by kernel_rfl
  have hcs : cs.toList.length = 5 := by simpa using hsz.trans hC
  obtain ⟨l⟩ := cs
  match l, hcs with
  | [c0, c1, c2, c3, c4], _ =>
    obtain ⟨y0, _, t0⟩ := hel 0 _ rfl
    obtain ⟨y1, _, t1⟩ := hel 1 _ rfl
    obtain ⟨y2, _, t2⟩ := hel 2 _ rfl
    obtain ⟨y3, _, t3⟩ := hel 3 _ rfl
    obtain ⟨y4, _, t4⟩ := hel 4 _ rfl
    simp only [h5, h3, Value.cells, List.drop_zero, List.drop_succ_cons, List.take_succ_cons, List.take_zero] at t0 t1 t2 t3 t4
    obtain ⟨k, e0, _, wk⟩ := DataW.trod_int Tryd.underlying5 t0
    obtain ⟨a, e1, _, _⟩ := DataW.trod_int Tryd.underlying3 t1
    obtain ⟨b, e2, _, _⟩ := DataW.trod_int Tryd.underlying3 t2
    obtain ⟨c, e3, _, _⟩ := DataW.trod_int Tryd.underlying3 t3
    obtain ⟨e, e4, _, _⟩ := DataW.trod_int Tryd.underlying3 t4
    simp only [List.cons.injEq, and_true] at e0 e1 e2 e3 e4
    subst e0 e1 e2 e3 e4
    exact ⟨k, a, b, c, e, rfl, wk⟩
theorem pair_at {H : Type} {enc : TypeId × Value → H} {P : Program} {w : World} {base : Nat} {sp : Nat → Bool} {held : Bool} {fuel n : Nat} {t e s : TypeId} {f0 f1 : Field} {cs : List Value} {ds : List (DataW H)} {p : List MemPlace}
    (ht : P.underlying t = some (.array n e)) (he : P.underlying e = some (.struct #[f0, f1])) (hce : P.cellsOf e = 2) (hcs : P.cellsOf s = 1) (hs : P.underlying s = some .string)
    (h0 : f0.type = s ∧ f0.offset = 0) (h1 : f1.type = s ∧ f1.offset = 1)
    (h : DataW.trod enc P w base sp held fuel t cs = some (.agg ds, p)) (i : Nat) (b b' : List UInt8) (hi : ds[i]? = some (.agg [.lit (.string b), .lit (.string b')])) : cs[i * 2]? = some (.string ⟨b.toArray⟩) ∧ cs[i * 2 + 1]? = some (.string ⟨b'.toArray⟩) := by
  obtain ⟨xs, m, rfl, hx, hlen, hn, hel⟩ := DataW.trod_array ht h
  simp only [Prod.mk.injEq, DataW.agg.injEq] at hx
  obtain ⟨rfl, _⟩ := hx
  have hlt : i < xs.length := by
    rcases Nat.lt_or_ge i xs.length with h1 | h1
    · exact h1
    · rw [List.getElem?_eq_none (by simpa using h1)] at hi; cases hi
  have he1 := hel i (by omega)
  rw [hce, List.getElem?_eq_getElem hlt] at he1
  obtain ⟨ys, m', rfl, hy, hl2, hf⟩ := trod_fields he he1
  rw [List.getElem?_map, List.getElem?_eq_getElem hlt, Option.map_some, Option.some.injEq, hy] at hi
  simp only [DataW.agg.injEq] at hi
  obtain ⟨y0, g0, u0⟩ := hf 0 f0 rfl
  obtain ⟨y1, g1, u1⟩ := hf 1 f1 rfl
  rw [h0.1, h0.2, hcs] at u0
  rw [h1.1, h1.2, hcs] at u1
  obtain ⟨s0, q0, r0, _⟩ := DataW.trod_string hs u0
  obtain ⟨s1, q1, r1, _⟩ := DataW.trod_string hs u1
  have hb0 : s0.data.toList = b := by
    have : (ys.map (·.1))[0]? = some y0.1 := by rw [List.getElem?_map, g0]; rfl
    rw [hi, r0] at this
    simpa using this.symm
  have hb1 : s1.data.toList = b' := by
    have : (ys.map (·.1))[1]? = some y1.1 := by rw [List.getElem?_map, g1]; rfl
    rw [hi, r1] at this
    simpa using this.symm
  have k0 : ((((cs.drop (i * 2)).take 2).drop 0).take 1)[0]? = some (.string s0) := by rw [q0]; rfl
  have k1 : ((((cs.drop (i * 2)).take 2).drop 1).take 1)[0]? = some (.string s1) := by rw [q1]; rfl
  constructor
  · rw [← hb0]; simpa using k0
  · rw [← hb1]; simpa using k1
theorem two_keeps {w w' : World} {cs : Array Value} {T : TypeId} {b o : Nat} {v : Value} (hb : Below (w.alloc (.cells cs T)).heap.size (w.alloc (.cells cs T)) w') (h : w.cell? ⟨b, o, none⟩ = some v) : w'.cell? ⟨b, o, none⟩ = some v :=
  cell_on hb ((World.cell?_alloc_past _ _ _ (World.block_lt_of_cell? w _ h)).trans h)
theorem two_new {w w' : World} {cs : Array Value} {T : TypeId} (hb : Below (w.alloc (.cells cs T)).heap.size (w.alloc (.cells cs T)) w') (i : Nat) (v : Value) (h : cs[i]? = some v) : w'.cell? ⟨w.heap.size, i, none⟩ = some v ∧ w'.frozen? ⟨w.heap.size, i, none⟩ = false := by
  rw [hb.cell (p := ⟨w.heap.size, i, none⟩) (by simp), hb.frozen (p := ⟨w.heap.size, i, none⟩) (by simp), World.cell?_alloc_at _ _ _ _ rfl, World.frozen?_alloc_at _ _ _ _ rfl]
  exact ⟨h, rfl⟩
theorem set_far {w : World} {b b' i o : Nat} {v x : Value} (hne : b < b') (h : w.cell? ⟨b, o, none⟩ = some v) : (w.setCell ⟨b', i, none⟩ x).cell? ⟨b, o, none⟩ = some v :=
  (World.cell?_setCell_other _ _ _ _ (by intro e; simp only [Addr.mk.injEq] at e; omega)).trans h
theorem set_off {w : World} {b i o : Nat} {v x : Value} (hne : i < o) (h : w.cell? ⟨b, o, none⟩ = some v) : (w.setCell ⟨b, i, none⟩ x).cell? ⟨b, o, none⟩ = some v :=
  (World.cell?_setCell_other _ _ _ _ (by intro e; simp only [Addr.mk.injEq] at e; omega)).trans h
theorem table_at (n : Nat) (hn : n < 35) : (match (Rows.laid_backstep_isa_table : DataW Unit) with | .agg ds => ds[n]? | _ => Option.none) = some (.agg [.lit (.string (mnL.getD n [])), .lit (.string (opL.getD n []))]) := by
  rcases (by omega : n = 0 ∨ n = 1 ∨ n = 2 ∨ n = 3 ∨ n = 4 ∨ n = 5 ∨ n = 6 ∨ n = 7 ∨ n = 8 ∨ n = 9 ∨ n = 10 ∨ n = 11 ∨ n = 12 ∨ n = 13 ∨ n = 14 ∨ n = 15 ∨ n = 16 ∨ n = 17 ∨ n = 18 ∨ n = 19 ∨ n = 20 ∨ n = 21 ∨ n = 22 ∨ n = 23 ∨ n = 24 ∨ n = 25 ∨ n = 26 ∨ n = 27 ∨ n = 28 ∨ n = 29 ∨ n = 30 ∨ n = 31 ∨ n = 32 ∨ n = 33 ∨ n = 34) with rfl | rfl | rfl | rfl | rfl | rfl | rfl | rfl | rfl | rfl | rfl | rfl | rfl | rfl | rfl | rfl | rfl | rfl | rfl | rfl | rfl | rfl | rfl | rfl | rfl | rfl | rfl | rfl | rfl | rfl | rfl | rfl | rfl | rfl | rfl <;> rfl
end Go.Proofs.YtgpcgkccfefdfaaDoor
