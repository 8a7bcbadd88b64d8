/- An image that came in as a parameter; and the table out of what the row lists. -/
import Derived.Test.YtalkhkhnpplofaaDoorRows
import Derived.WalkKit
import Derived.ProofKit
import Derived.OpenShut
import Derived.Below
import Derived.Lib.Hide
import Derived.Outline
import Derived.WalkLawsBesides
import Derived.WalkSpells
import Derived.WalkSmall
import Derived.IntWalk
import Derived.Deep.QuietTactic
import Derived.BigQuiet
import Derived.Deep.RegionHeld3
import Derived.StillTailTactics
import Derived.Handy
import Derived.Deep.Cut
import Derived.Deep.OwnRows
import Derived.Deep.RegionWith
import Derived.Test.YtalkhkhnpplofaaDoorAwake
import Derived.Test.YtalkhkhnpplofaaDoorRCheck
import Derived.Test.YtalkhkhnpplofaaDoorInv
import Derived.Deep.Slices
namespace Go.Proofs.YtalkhkhnpplofaaDoor
open Go.ChangeShapes Go.WideShapes Go.ChangeAt Go.RowKit
set_option linter.unusedSimpArgs false
set_option linter.unusedVariables false
theorem trod_fields {H : Type} {enc : TypeId × Value → H} {P : Program} {w : World} {base : Nat} {sp : Nat → Bool} {held : Bool} {fuel : Nat} {t : TypeId} {fs : Array Field} {cs : List Value} {x : DataW H × List MemPlace}
    (ht : P.underlying t = some (.struct fs)) (h : DataW.trod enc P w base sp held fuel t cs = some x) :
    ∃ (xs : List (DataW H × List MemPlace)) (m : Nat), fuel = m + 1 ∧ x.1 = .agg (xs.map (·.1)) ∧ cs.length = P.cellsOf t ∧
      ∀ (i : Nat) (f : Field), fs.toList[i]? = some f → ∃ y, xs[i]? = some y ∧ DataW.trod enc P w base sp held m f.type ((cs.drop f.offset).take (P.cellsOf f.type)) = some y := by
  cases fuel with
  | zero => simp [DataW.trod] at h
  | succ m =>
    simp only [DataW.trod, ht] at h
    split at h
    · rename_i hl
      obtain ⟨xs, hm, hx⟩ := Option.map_eq_some_iff.1 h
      refine ⟨xs, m, rfl, by rw [← hx], hl, fun i f hf => ?_⟩
      have hg := mapM_some_get hm i f hf
      have hlen := mapM_some_length hm
      have hlt : i < xs.length := by
        rcases Nat.lt_or_ge i xs.length with h1 | h1
        · exact h1
        · rw [List.getElem?_eq_none (by omega)] at hf; cases hf
      rw [List.getElem?_eq_getElem hlt] at hg ⊢
      exact ⟨_, rfl, hg⟩
    · cases h
theorem pair_at {H : Type} {enc : TypeId × Value → H} {P : Program} {w : World} {base : Nat} {sp : Nat → Bool} {held : Bool} {fuel n : Nat} {t e s : TypeId} {f0 f1 : Field} {cs : List Value} {ds : List (DataW H)} {p : List MemPlace}
    (ht : P.underlying t = some (.array n e)) (he : P.underlying e = some (.struct #[f0, f1])) (hce : P.cellsOf e = 2) (hcs : P.cellsOf s = 1) (hs : P.underlying s = some .string)
    (h0 : f0.type = s ∧ f0.offset = 0) (h1 : f1.type = s ∧ f1.offset = 1)
    (h : DataW.trod enc P w base sp held fuel t cs = some (.agg ds, p)) (i : Nat) (b b' : List UInt8) (hi : ds[i]? = some (.agg [.lit (.string b), .lit (.string b')])) : cs[i * 2]? = some (.string ⟨b.toArray⟩) ∧ cs[i * 2 + 1]? = some (.string ⟨b'.toArray⟩) := by
  obtain ⟨xs, m, rfl, hx, hlen, hn, hel⟩ := DataW.trod_array ht h
  simp only [Prod.mk.injEq, DataW.agg.injEq] at hx
  obtain ⟨rfl, _⟩ := hx
  have hlt : i < xs.length := by
    rcases Nat.lt_or_ge i xs.length with h1 | h1
    · exact h1
    · rw [List.getElem?_eq_none (by simpa using h1)] at hi; cases hi
  have he1 := hel i (by omega)
  rw [hce, List.getElem?_eq_getElem hlt] at he1
  obtain ⟨ys, m', rfl, hy, hl2, hf⟩ := trod_fields he he1
  rw [List.getElem?_map, List.getElem?_eq_getElem hlt, Option.map_some, Option.some.injEq, hy] at hi
  simp only [DataW.agg.injEq] at hi
  obtain ⟨y0, g0, u0⟩ := hf 0 f0 rfl
  obtain ⟨y1, g1, u1⟩ := hf 1 f1 rfl
  rw [h0.1, h0.2, hcs] at u0
  rw [h1.1, h1.2, hcs] at u1
  obtain ⟨s0, q0, r0, _⟩ := DataW.trod_string hs u0
  obtain ⟨s1, q1, r1, _⟩ := DataW.trod_string hs u1
  have hb0 : s0.data.toList = b := by
    have : (ys.map (·.1))[0]? = some y0.1 := by rw [List.getElem?_map, g0]; rfl
    rw [hi, r0] at this
    simpa using this.symm
  have hb1 : s1.data.toList = b' := by
    have : (ys.map (·.1))[1]? = some y1.1 := by rw [List.getElem?_map, g1]; rfl
    rw [hi, r1] at this
    simpa using this.symm
  have k0 : ((((cs.drop (i * 2)).take 2).drop 0).take 1)[0]? = some (.string s0) := by rw [q0]; rfl
  have k1 : ((((cs.drop (i * 2)).take 2).drop 1).take 1)[0]? = some (.string s1) := by rw [q1]; rfl
  constructor
  · rw [← hb0]; simpa using k0
  · rw [← hb1]; simpa using k1
theorem table_at (n : Nat) (hn : n < 35) : (match (Rows.laid_backstep_isa_table : DataW Unit) with | .agg ds => ds[n]? | _ => Option.none) = some (.agg [.lit (.string (mnL.getD n [])), .lit (.string (opL.getD n []))]) := by
  rcases (by omega : n = 0 ∨ n = 1 ∨ n = 2 ∨ n = 3 ∨ n = 4 ∨ n = 5 ∨ n = 6 ∨ n = 7 ∨ n = 8 ∨ n = 9 ∨ n = 10 ∨ n = 11 ∨ n = 12 ∨ n = 13 ∨ n = 14 ∨ n = 15 ∨ n = 16 ∨ n = 17 ∨ n = 18 ∨ n = 19 ∨ n = 20 ∨ n = 21 ∨ n = 22 ∨ n = 23 ∨ n = 24 ∨ n = 25 ∨ n = 26 ∨ n = 27 ∨ n = 28 ∨ n = 29 ∨ n = 30 ∨ n = 31 ∨ n = 32 ∨ n = 33 ∨ n = 34) with rfl | rfl | rfl | rfl | rfl | rfl | rfl | rfl | rfl | rfl | rfl | rfl | rfl | rfl | rfl | rfl | rfl | rfl | rfl | rfl | rfl | rfl | rfl | rfl | rfl | rfl | rfl | rfl | rfl | rfl | rfl | rfl | rfl | rfl | rfl <;> rfl

instance : Inhabited Ins := ⟨zins⟩
theorem addr_of {w : World} {a : Addr} {v : Value} (h : w.cell? a = some v) : a = ⟨a.block, a.off, none⟩ := by
  obtain ⟨b, o, s⟩ := a
  cases s with
  | none => rfl
  | some x =>
    exfalso
    unfold World.cell? at h
    simp only [Option.isSome_some, if_true] at h
    split at h <;> cases h
theorem add_zero_ (a : Addr) : a.add 0 = a := by unfold Addr.add; simp
theorem code_of {H : Type} {enc : TypeId × Value → H} {w : World} {base : Nat} {sp : Nat → Bool} {held : Bool} {fuel : Nat} {c : Value} {x : DataW H × List MemPlace}
    (hf : DataW.trod enc Tryd.prog w base sp held fuel 22 [c] = some x) :
    ∃ (a : Option Addr) (n cap : Nat) (l : List Ins), c = .slice a n cap ∧ l.length = n ∧ n ≤ maxLen ∧ SliceC w a l ∧ WF l := by
  rcases Go.Deep.open_slice Tryd.underlying22 hf with ⟨hcs, _⟩ | ⟨a', len, cap', m, n', D, Pl, hcs, hb, hl, hm, hmm, _, hel⟩
  · simp only [List.cons.injEq, and_true] at hcs
    exact ⟨none, 0, 0, [], hcs, rfl, Nat.zero_le _, fun e => absurd rfl e, fun x hx => by cases hx⟩
  · simp only [List.cons.injEq, and_true] at hcs
    have hlm : len ≤ m := by rw [hmm]; split <;> omega
    have hC : Tryd.prog.cellsOf 39 = 5 := by kernel_rfl
    have h5 : Tryd.prog.cellsOf 5 = 1 := by kernel_rfl
    have h3 : Tryd.prog.cellsOf 3 = 1 := by kernel_rfl
    rw [hC] at hel
    have key : ∀ i, i < len → ∃ t : Ins, (w.cell? (a'.add (i * 5)) = some (.int .u8 t.k) ∧ w.cell? ((a'.add (i * 5)).add 1) = some (.int .i64 t.a) ∧ w.cell? ((a'.add (i * 5)).add 2) = some (.int .i64 t.b) ∧ w.cell? ((a'.add (i * 5)).add 3) = some (.int .i64 t.c) ∧ w.cell? ((a'.add (i * 5)).add 4) = some (.int .i64 t.d)) ∧ 0 ≤ t.k ∧ t.k ≤ 255 := by
      intro i hi
      obtain ⟨cs', h1, h2⟩ := hel i (by omega)
      obtain ⟨_, hlen, hcell⟩ := World.cells?_some h1
      obtain ⟨xs, m', rfl, _, _, hfl⟩ := trod_fields Tryd.underlying39 h2
      match cs', hlen with
      | [c0, c1, c2, c3, c4], _ =>
        obtain ⟨y0, _, t0⟩ := hfl 0 _ rfl
        obtain ⟨y1, _, t1⟩ := hfl 1 _ rfl
        obtain ⟨y2, _, t2⟩ := hfl 2 _ rfl
        obtain ⟨y3, _, t3⟩ := hfl 3 _ rfl
        obtain ⟨y4, _, t4⟩ := hfl 4 _ rfl
        simp only [h5, h3, List.drop_zero, List.drop_succ_cons, List.take_succ_cons, List.take_zero] at t0 t1 t2 t3 t4
        obtain ⟨k, e0, _, wk⟩ := DataW.trod_int Tryd.underlying5 t0
        obtain ⟨a, e1, _, _⟩ := DataW.trod_int Tryd.underlying3 t1
        obtain ⟨b, e2, _, _⟩ := DataW.trod_int Tryd.underlying3 t2
        obtain ⟨c, e3, _, _⟩ := DataW.trod_int Tryd.underlying3 t3
        obtain ⟨d, e4, _, _⟩ := DataW.trod_int Tryd.underlying3 t4
        simp only [List.cons.injEq, and_true] at e0 e1 e2 e3 e4
        subst e0 e1 e2 e3 e4
        refine ⟨⟨k, a, b, c, d⟩, ⟨?_, hcell 1 (by omega), hcell 2 (by omega), hcell 3 (by omega), hcell 4 (by omega)⟩, bounds_u8 wk⟩
        have := hcell 0 (by omega)
        rw [add_zero_] at this
        exact this
    obtain ⟨f, hf⟩ := Go.Deep.choose_lt key
    refine ⟨some a', len, cap', (List.range len).map f, hcs, by simp, by omega, fun hne => ?_, fun t ht => ?_⟩
    · have hn : 0 < len := by
        rcases Nat.eq_zero_or_pos len with h0 | h0
        · subst h0; exact absurd rfl hne
        · exact h0
      have h0 := (hf 0 hn).1.1
      rw [Nat.zero_mul, add_zero_] at h0
      have ha := addr_of h0
      refine ⟨a'.block, a'.off, by rw [← ha], World.block_lt_of_cell? w _ h0, fun i t hi => ?_⟩
      rw [List.getElem?_map] at hi
      obtain ⟨j, hj, rfl⟩ := Option.map_eq_some_iff.1 hi
      have hj2 : j = i ∧ i < len := by
        rcases Nat.lt_or_ge i len with h1 | h1
        · rw [List.getElem?_range h1] at hj; exact ⟨(Option.some.inj hj).symm, h1⟩
        · rw [List.getElem?_eq_none (by simpa using h1)] at hj; cases hj
      obtain ⟨rfl, hin⟩ := hj2
      obtain ⟨q0, q1, q2, q3, q4⟩ := (hf j hin).1
      rw [ha] at q0 q1 q2 q3 q4
      have e0 : (⟨a'.block, a'.off, none⟩ : Addr).add (j * 5) = ⟨a'.block, a'.off + j * 5, none⟩ := Addr.add_lit _ _ _
      rw [e0, Addr.add_lit] at q1 q2 q3 q4
      rw [e0] at q0
      exact ⟨q0, q1, q2, q3, q4⟩
    · obtain ⟨j, hj, rfl⟩ := List.mem_map.1 ht
      exact (hf j (List.mem_range.1 hj)).2
theorem open_image {H : Type} {enc : TypeId × Value → H} {w : World} {base b0 : Nat} {sp : Nat → Bool} {held : Bool} {r : Reach} {v : Value} {d : DataW H} {p : List MemPlace}
    (hv : Value.okWide Tryd.prog w r b0 24 v) (h : DataW.Trod enc Tryd.prog w base sp held 24 v d p) :
    ∃ (a : Option Addr) (n cap : Nat) (m s : Int) (l : List Ins), v = .agg #[.slice a n cap, .int .i64 m, .int .i64 s] ∧ l.length = n ∧ n ≤ maxLen ∧ SliceC w a l ∧ WF l := by
  obtain ⟨cs, rfl, hsz⟩ := okWide_struct Tryd.underlying24 hv
  obtain ⟨fuel, hf⟩ := h
  obtain ⟨xs, m', rfl, _, hlen, hel⟩ := trod_fields Tryd.underlying24 hf
  have hC : Tryd.prog.cellsOf 24 = 3 := by kernel_rfl
  have h22 : Tryd.prog.cellsOf 22 = 1 := by kernel_rfl
  have h3 : Tryd.prog.cellsOf 3 = 1 := by kernel_rfl
  have hcs : cs.toList.length = 3 := by simpa using hsz.trans hC
  obtain ⟨ll⟩ := cs
  match ll, hcs with
  | [c0, c1, c2], _ =>
    obtain ⟨y0, _, t0⟩ := hel 0 _ rfl
    obtain ⟨y1, _, t1⟩ := hel 1 _ rfl
    obtain ⟨y2, _, t2⟩ := hel 2 _ rfl
    simp only [h22, h3, Value.cells, List.drop_zero, List.drop_succ_cons, List.take_succ_cons, List.take_zero] at t0 t1 t2
    obtain ⟨a, n, cap, l, rfl, hl, hn, hS, hw⟩ := code_of t0
    obtain ⟨m, e1, _, _⟩ := DataW.trod_int Tryd.underlying3 t1
    obtain ⟨s, e2, _, _⟩ := DataW.trod_int Tryd.underlying3 t2
    simp only [List.cons.injEq, and_true] at e1 e2
    subst e1 e2
    exact ⟨a, n, cap, m, s, l, rfl, hl, hn, hS, hw⟩
theorem great_any (a : Option Addr) (n cap : Nat) (m s : Int) (w : World) :
    Calls Tryd.prog 13 #[.agg #[.slice a n cap, .int .i64 m, .int .i64 s]] w fun e w' => e = .returned (.bool (decide ((80 : Int) < (n : Int)))) ∧ Below w.heap.size w w' := by
  have HA : Hid (Below w.heap.size w (w.alloc (.cells #[.slice a n cap, .int .i64 m, .int .i64 s] 24))) := Lib.hid ((Below.refl _ _).alloc (Nat.le_refl _) _)
  go_enter Tryd.func13, Tryd.ntmps13
  go_wp2
  go_ret
  exact ⟨rfl, HA.out⟩
end Go.Proofs.YtalkhkhnpplofaaDoor
