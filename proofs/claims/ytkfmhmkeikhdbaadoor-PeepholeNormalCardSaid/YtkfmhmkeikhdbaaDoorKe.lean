/- The optimized image. -/
import Derived.Test.YtkfmhmkeikhdbaaDoorKd
import Derived.Test.YtkfmhmkeikhdbaaDoorRc
namespace Go.Proofs.YtkfmhmkeikhdbaaDoor
open Go.Proofs.YtkfmhmkeikhdbaaDoor.Pv Go.RowKit
set_option maxRecDepth 100000
set_option maxHeartbeats 4000000
set_option linter.unusedSimpArgs false
set_option linter.unusedVariables false
theorem nb_I {c : PV} {l : List Int} (h : c ∈ l.map I) : NB c := by obtain ⟨a, _, rfl⟩ := List.mem_map.1 h; exact NB.int _ _
theorem nb_z : ∀ c ∈ ([PV.nils, I 0, I 0] : List PV), NB c := by
  intro c hc
  simp only [List.mem_cons, List.not_mem_nil, or_false] at hc
  rcases hc with rfl | rfl | rfl
  · exact NB.nils
  · exact NB.int _ _
  · exact NB.int _ _
theorem nb_cs {c : PV} {l : List Ins} (h : c ∈ l.flatMap Ins.cs) : NB c := by
  obtain ⟨x, _, hx⟩ := List.mem_flatMap.1 h
  simp only [Ins.cs, List.mem_cons, List.not_mem_nil, or_false] at hx
  rcases hx with rfl | rfl | rfl | rfl | rfl <;> exact NB.int _ _
theorem lpA (l : List Ins) (m s : Int) (h29 h36 h27 h28 : List PV → Option PV) (hT : TabOk Tryd.prog X.G [(29, h29), (36, h36), (27, h27), (28, h28)]) (hn : l.length ≤ 300) (k : List Nat) (hk : ∀ p ∈ k, p < l.length) (hkl : k.length ≤ l.length) :
    ∀ r i, i + r = k.length → LoopOk Tryd.prog X.G 0 (lpB Tryd.f16 7) ⟨⟨89, [(33, .int .i64 ((i : Nat) : Int)), (7, .sl 2 1 0 (List.length l)), (31, .lst 1 (List.map ni k)), (1, .ptr 0 0), (2, .ptr 1 0), (6, .lst 1 (List.map ni k)), (32, .int .i64 (k.length : Int))]⟩, [⟨3, [code l, .int .i64 m, .int .i64 s], 0⟩, ⟨3, [.nils, .int .i64 0, .int .i64 0], 0⟩, ⟨1, List.map I (ixs k l.length i), 0⟩]⟩ (.exit 0) ⟨⟨89, [(7, .sl 2 1 0 (List.length l)), (1, .ptr 0 0), (2, .ptr 1 0), (6, .lst 1 (List.map ni k))]⟩, [⟨3, [code l, .int .i64 m, .int .i64 s], 0⟩, ⟨3, [.nils, .int .i64 0, .int .i64 0], 0⟩, ⟨1, List.map I (ixs k l.length k.length), 0⟩]⟩ := by
  intro r
  induction r with
  | zero =>
    intro i hi
    obtain rfl : i = k.length := by omega
    refine round_ok env.mixed (tab_orc hT tn') (by kernel_rfl) (r16a h29 h36 h27 h28 l k (ixs k l.length k.length) [] m s k.length 0 0) ?_
    simp only [Holds, Pv.Next]
    exact ⟨fun h => absurd h (by simp), fun _ => ⟨trivial, ⟨trivial, trivial, ⟨VW.sl rfl rfl rfl rfl, VW.ptr rfl rfl, VW.ptr rfl rfl, VW.lst rfl rfl, trivial⟩, ⟨BW.cells (.cons (VW.lst rfl rfl) (.cons (VW.int rfl) (.cons (VW.int rfl) .nil))), BW.flat rfl nb_z, BW.flat rfl (fun c hc => nb_I hc), trivial⟩⟩, trivial, rfl⟩⟩
  | succ r ih =>
    intro i hi
    obtain ⟨p, hp⟩ : ∃ p, k[i]? = some p := ⟨_, List.getElem?_eq_getElem (by omega)⟩
    refine round_ok env.mixed (tab_orc hT tn') (by kernel_rfl) (r16a h29 h36 h27 h28 l k (ixs k l.length i) (ixs k l.length (i + 1)) m s i p p) ?_
    simp only [Holds, Pv.Next]
    have hpl := hk p (List.mem_of_getElem? hp)
    have hil : i < k.length := by omega
    have e1 := pidx_lst (P := Tryd.prog) (T := 39) (E := 3) (sz := 1) (pv := ni) (c := [ni p]) (l := k) (x := p) (j := i) (k := .i64) Tryd.underlying39 sz3 hp rfl
    have e2 := pidx_sl (P := Tryd.prog) (T := 39) (E := 3) (id := 2) (sz := 1) (off := 0) (len := l.length) (j := p) (k := .i64) Tryd.underlying39 sz3 hpl
    rw [show 0 * 1 + p * 1 = p by omega] at e2
    have e3 := pstore_at (P := Tryd.prog) (hp := [⟨3, [code l, I m, I s], 0⟩, ⟨3, [PV.nils, I 0, I 0], 0⟩, ⟨1, List.map I (ixs k l.length i), 0⟩]) (T := 3) (id := 2) (q := p) (n := 1) (sz := 1) (x := I (i : Int)) (xs := [I (i : Int)]) rfl sz3 rfl rfl (by rw [List.length_map, ixs_len]; omega) rfl
    have e4 : (ixs k l.length i).set p (i : Int) = ixs k l.length (i + 1) := by
      show _ = (ixs k l.length i).set (k.getD i 0) (i : Int)
      rw [List.getD_eq_getElem?_getD, hp]; rfl
    have e5 := map_set (f := I) (ixs k l.length i) p (i : Int) (by rw [ixs_len]; exact hpl)
    rw [e5, e4] at e3
    exact ⟨fun _ => ⟨congrArg (Option.map fun v => (v, _)) e1, congrArg (Option.map fun v => (v, _)) e2, congrArg (Option.map fun v => (PV.tup [], v)) e3, ⟨trivial, trivial, ⟨VW.int (wsucc (by omega)), VW.sl rfl rfl rfl rfl, VW.lst rfl rfl, VW.ptr rfl rfl, VW.ptr rfl rfl, VW.lst rfl rfl, VW.int rfl, trivial⟩, ⟨BW.cells (.cons (VW.lst rfl rfl) (.cons (VW.int rfl) (.cons (VW.int rfl) .nil))), BW.flat rfl nb_z, BW.flat rfl (fun c hc => nb_I hc), trivial⟩⟩, ih (i + 1) (by omega)⟩, fun h => absurd h (by simp; omega)⟩
theorem lpB16 (l : List Ins) (m s : Int) (h29 h36 h27 h28 : List PV → Option PV) (hT : TabOk Tryd.prog X.G [(29, h29), (36, h36), (27, h27), (28, h28)]) (hw : WF l) (hn : l.length ≤ 300) (k : List Nat) (ix : List Int) (o : List Ins) (hix : ix.length = l.length) (hol : o.length = k.length) (hkl : k.length ≤ l.length)
    (e27 : ∀ x : Ins, By x → h27 [x.pv] = some (.tup [.int .i64 (tgt x), .bool (tb x.k)])) (e28 : ∀ (x : Ins) (j : Int), By x → h28 [x.pv, .int .i64 j] = some (rtI x j).pv)
    (hk : ∀ (i p : Nat), k[i]? = some p → ∃ (x : Ins) (j : Int), l[p]? = some x ∧ o[i]? = some (rtI x j) ∧ (tb x.k = true → ∃ t : Nat, tgt x = t ∧ ix[t]? = some j)) :
    ∀ r i, i + r = k.length → LoopOk Tryd.prog X.G 0 (lpB Tryd.f16 13) ⟨⟨89, [(48, .int .i64 ((i : Nat) : Int)), (7, .sl 2 1 0 (List.length l)), (10, .sl 3 5 0 (List.length k)), (1, .ptr 0 0), (46, .lst 1 (List.map ni k)), (2, .ptr 1 0), (47, .int .i64 (k.length : Int))]⟩, [⟨3, [code l, .int .i64 m, .int .i64 s], 0⟩, ⟨3, [.nils, .int .i64 0, .int .i64 0], 0⟩, ⟨1, List.map I ix, 0⟩, ⟨5, List.flatMap Ins.cs (fil o i), 0⟩]⟩ (.exit 2) ⟨⟨89, [(10, .sl 3 5 0 (List.length k)), (1, .ptr 0 0), (2, .ptr 1 0)]⟩, [⟨3, [code l, .int .i64 m, .int .i64 s], 0⟩, ⟨3, [.nils, .int .i64 0, .int .i64 0], 0⟩, ⟨1, List.map I ix, 0⟩, ⟨5, List.flatMap Ins.cs o, 0⟩]⟩ := by
  intro r
  induction r with
  | zero =>
    intro i hi
    obtain rfl : i = k.length := by omega
    have hfo : fil o k.length = o := by rw [← hol]; exact fil_all o
    rw [hfo]
    refine round_ok env.mixed (tab_orc hT tn') (by kernel_rfl) (r16b h29 h36 h27 h28 l o [] [] k ix m s 0 0 k.length 0 0 0 ⟨0, 0, 0, 0, 0⟩ ⟨0, 0, 0, 0, 0⟩ false) ?_
    simp only [Holds, Pv.Next]
    refine ⟨fun h => absurd h (by simp), fun _ => ?_⟩
    exact ⟨trivial, ⟨trivial, trivial, ⟨VW.sl rfl rfl rfl rfl, VW.ptr rfl rfl, VW.ptr rfl rfl, trivial⟩, ⟨BW.cells (.cons (VW.lst rfl rfl) (.cons (VW.int rfl) (.cons (VW.int rfl) .nil))), BW.flat rfl nb_z, BW.flat rfl (fun c hc => nb_I hc), BW.flat rfl (fun c hc => nb_cs hc), trivial⟩⟩, trivial, rfl⟩
  | succ r ih =>
    intro i hi
    obtain ⟨p, hp⟩ : ∃ p, k[i]? = some p := ⟨_, List.getElem?_eq_getElem (by omega)⟩
    obtain ⟨x, j, hx, ho, hj⟩ := hk i p hp
    have hx' : By x := hw x (List.mem_of_getElem? hx)
    have hil : i < k.length := by omega
    have hpl : p < l.length := (List.getElem?_eq_some_iff.1 hx).1
    have hfl : i < (fil o i).length := by rw [fil_len o i (by omega)]; omega
    have e1 := pidx_lst (P := Tryd.prog) (T := 39) (E := 3) (sz := 1) (pv := ni) (c := [ni p]) (l := k) (x := p) (j := i) (k := .i64) Tryd.underlying39 sz3 hp rfl
    have e2 := px_code hx
    have e3 := pidx_sl (P := Tryd.prog) (T := 28) (E := 23) (id := 3) (sz := 5) (off := 0) (len := k.length) (j := i) (k := .i64) Tryd.underlying28 sz23 hil
    rw [show 0 * 5 + i * 5 = i * 5 by omega] at e3
    have hcs : ∀ a : Ins, (Ins.cs a).length = 5 := fun _ => rfl
    have st : ∀ (c : List Ins) (y : Ins), i < c.length → pstore Tryd.prog [⟨3, [code l, I m, I s], 0⟩, ⟨3, [PV.nils, I 0, I 0], 0⟩, ⟨1, List.map I ix, 0⟩, ⟨5, List.flatMap Ins.cs c, 0⟩] 23 (.ptr 3 (i * 5)) (.agg y.cs) = some [⟨3, [code l, I m, I s], 0⟩, ⟨3, [PV.nils, I 0, I 0], 0⟩, ⟨1, List.map I ix, 0⟩, ⟨5, List.flatMap Ins.cs (c.set i y), 0⟩] := fun c y hc => by
      have := pstore_at (P := Tryd.prog) (hp := [⟨3, [code l, I m, I s], 0⟩, ⟨3, [PV.nils, I 0, I 0], 0⟩, ⟨1, List.map I ix, 0⟩, ⟨5, List.flatMap Ins.cs c, 0⟩]) (T := 23) (id := 3) (q := i * 5) (n := 5) (sz := 5) (x := .agg y.cs) (xs := y.cs) rfl sz23 rfl rfl (flat_in hcs hc) rfl
      rw [flat_set hcs c i y hc] at this
      exact this
    have ld : pload Tryd.prog [⟨3, [code l, I m, I s], 0⟩, ⟨3, [PV.nils, I 0, I 0], 0⟩, ⟨1, List.map I ix, 0⟩, ⟨5, List.flatMap Ins.cs ((fil o i).set i x), 0⟩] 23 (.ptr 3 (i * 5)) = some (.agg x.cs) :=
      pload_agg (P := Tryd.prog) (T := 23) (id := 3) (q := i * 5) (n := 5) (bx := ⟨5, List.flatMap Ins.cs ((fil o i).set i x), 0⟩) rfl (Nat.zero_le 1) sz23 a23 rfl (flat_get hcs _ i x (by rw [List.getElem?_set_self hfl]))
    have c27 : (tab X.sh [(29, h29), (36, h36), (27, h27), (28, h28)] []).iso 27 [x.pv] = some (.tup [.int .i64 (tgt x), .bool (tb x.k)]) := e27 x hx'
    have c28 : (tab X.sh [(29, h29), (36, h36), (27, h27), (28, h28)] []).iso 28 [x.pv, .int .i64 j] = some (rtI x j).pv := e28 x j hx'
    have s1 := st (fil o i) x hfl
    have fin : ∀ c : List Ins, c = fil o (i + 1) → BW (Pv.idx [0, 1, 2, 3]) [] ⟨5, List.flatMap Ins.cs c, 0⟩ ⟨5, List.flatMap Ins.cs (fil o (i + 1)), 0⟩ := fun c e => BW.flat (by rw [e]) (fun c hc => nb_cs hc)
    cases ht : tb x.k with
    | true =>
      obtain ⟨t, t1, t2⟩ := hj ht
      have htl : t < l.length := by rw [← hix]; exact (List.getElem?_eq_some_iff.1 t2).1
      have ho' : ((fil o i).set i x).set i (rtI x j) = fil o (i + 1) := by rw [List.set_set]; exact fil_set ho
      have s2 := st ((fil o i).set i x) (rtI x j) (by rw [List.length_set]; exact hfl)
      rw [ho'] at s2
      have e7 := pidx_sl (P := Tryd.prog) (T := 39) (E := 3) (id := 2) (sz := 1) (off := 0) (len := l.length) (j := t) (k := .i64) Tryd.underlying39 sz3 htl
      rw [show 0 * 1 + t * 1 = t by omega] at e7
      have e8 := pload_at (P := Tryd.prog) (T := 3) (id := 2) (q := t) (hp := [⟨3, [code l, I m, I s], 0⟩, ⟨3, [PV.nils, I 0, I 0], 0⟩, ⟨1, List.map I ix, 0⟩, ⟨5, List.flatMap Ins.cs ((fil o i).set i x), 0⟩]) (c := I j) rfl (by simp) sz3 a3 (by show (List.map I ix)[t]? = some (I j); rw [List.getElem?_map, t2]; rfl)
      rw [ht, t1] at c27
      refine round_ok env.mixed (tab_orc hT tn') (by kernel_rfl) (r16b h29 h36 h27 h28 l (fil o i) ((fil o i).set i x) (fil o (i + 1)) k ix m s t j i (i * 5) p t x (rtI x j) true) ?_
      simp only [Holds, Pv.Next]
      refine ⟨fun _ => ⟨congrArg (Option.map fun v => (v, _)) e1, congrArg (Option.map fun v => (v, _)) e2, congrArg (Option.map fun v => (v, _)) e3, congrArg (Option.map fun v => (PV.tup [], v)) s1, congrArg (Option.map fun v => (v, _)) e3, congrArg (Option.map fun v => (v, _)) ld, fun _ => ⟨pcallv_iso rfl rfl c27, congrArg (Option.map fun v => (v, _)) e3, congrArg (Option.map fun v => (v, _)) ld, congrArg (Option.map fun v => (v, _)) e7, congrArg (Option.map fun v => (v, _)) e8, pcallD_iso rfl rfl c28, congrArg (Option.map fun v => (v, _)) e3, congrArg (Option.map fun v => (PV.tup [], v)) s2, ⟨trivial, trivial, ⟨VW.int (wsucc (by omega)), VW.sl rfl rfl rfl rfl, VW.sl rfl rfl rfl rfl, VW.ptr rfl rfl, VW.lst rfl rfl, VW.ptr rfl rfl, VW.int rfl, trivial⟩, ⟨BW.cells (.cons (VW.lst rfl rfl) (.cons (VW.int rfl) (.cons (VW.int rfl) .nil))), BW.flat rfl nb_z, BW.flat rfl (fun c hc => nb_I hc), BW.flat rfl (fun c hc => nb_cs hc), trivial⟩⟩, ih (i + 1) (by omega)⟩, fun h => absurd h (by decide)⟩, fun h => absurd h (by simp; omega)⟩
    | false =>
      have ho' : (fil o i).set i x = fil o (i + 1) := fil_set (by rw [ho, rtI_no x j ht])
      rw [ho'] at s1 ld
      rw [ht] at c27
      refine round_ok env.mixed (tab_orc hT tn') (by kernel_rfl) (r16b h29 h36 h27 h28 l (fil o i) (fil o (i + 1)) [] k ix m s (tgt x) 0 i (i * 5) p 0 x x false) ?_
      simp only [Holds, Pv.Next]
      refine ⟨fun _ => ⟨congrArg (Option.map fun v => (v, _)) e1, congrArg (Option.map fun v => (v, _)) e2, congrArg (Option.map fun v => (v, _)) e3, congrArg (Option.map fun v => (PV.tup [], v)) s1, congrArg (Option.map fun v => (v, _)) e3, congrArg (Option.map fun v => (v, _)) ld, fun h => absurd h (by decide), fun _ => ⟨pcallv_iso rfl rfl c27, ⟨trivial, trivial, ⟨VW.int (wsucc (by omega)), VW.sl rfl rfl rfl rfl, VW.sl rfl rfl rfl rfl, VW.ptr rfl rfl, VW.lst rfl rfl, VW.ptr rfl rfl, VW.int rfl, trivial⟩, ⟨BW.cells (.cons (VW.lst rfl rfl) (.cons (VW.int rfl) (.cons (VW.int rfl) .nil))), BW.flat rfl nb_z, BW.flat rfl (fun c hc => nb_I hc), BW.flat rfl (fun c hc => nb_cs hc), trivial⟩⟩, ih (i + 1) (by omega)⟩⟩, fun h => absurd h (by simp; omega)⟩
end Go.Proofs.YtkfmhmkeikhdbaaDoor
