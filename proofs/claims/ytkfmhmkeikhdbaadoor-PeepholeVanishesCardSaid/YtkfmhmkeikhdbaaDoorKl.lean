/- The inverse of an image; to optimize it is to invert the optimized image. -/
import Derived.Test.YtkfmhmkeikhdbaaDoorKk
import Derived.Test.YtkfmhmkeikhdbaaDoorKh
import Derived.Test.YtkfmhmkeikhdbaaDoorRg
namespace Go.Proofs.YtkfmhmkeikhdbaaDoor
open Go.Proofs.YtkfmhmkeikhdbaaDoor.Pv Go.RowKit
set_option maxRecDepth 100000
set_option maxHeartbeats 8000000
set_option linter.unusedSimpArgs false
set_option linter.unusedVariables false
theorem fine47 : Fine Tryd.prog 47 := ⟨_, Tryd.func47, by kernel_rfl, by kernel_rfl⟩
theorem ok47 (l : List Ins) (m s i : Int) (hw : WF l) : Ok Tryd.prog X.G 47 [imgP l m s, .int .i64 i] (.tup [.int .i64 ((part l i).getD 0), .bool (part l i).isSome]) :=
  ok_flat fine47 (flat_tup2 (.int _ _) (.bool _)) fun w H vs hs hg ha => by
    obtain ⟨u, v, rfl, hu, hv⟩ := args2 ha
    obtain ⟨a, cap, rfl, hS⟩ := rel_img hs hu
    rw [rel_int hv]
    exact (partner_any a l.length cap l m s i w hS rfl hw (laid_of hs hg)).mono fun e w' ⟨he, hb⟩ => ⟨_, he, hb, rel_tup2 (.int _ _) (.bool _)⟩
/-- a list filled from the right -/
def fir (o : List Ins) (i : Nat) : List Ins := List.replicate (o.length - i) ⟨0, 0, 0, 0, 0⟩ ++ o.drop (o.length - i)
theorem fir_zero (o : List Ins) : fir o 0 = List.replicate o.length ⟨0, 0, 0, 0, 0⟩ := by simp [fir]
theorem fir_all (o : List Ins) : fir o o.length = o := by simp [fir]
theorem fir_len (o : List Ins) (i : Nat) (h : i ≤ o.length) : (fir o i).length = o.length := by simp [fir]
theorem fir_set {o : List Ins} {i : Nat} {y : Ins} (hi : i < o.length) (h : o[o.length - 1 - i]? = some y) : (fir o i).set (o.length - 1 - i) y = fir o (i + 1) := by
  have e : o.length - i = (o.length - 1 - i) + 1 := by omega
  have e2 : o.length - (i + 1) = o.length - 1 - i := by omega
  have hk := (List.getElem?_eq_some_iff.1 h).1
  unfold fir
  rw [e, e2, List.replicate_succ', List.append_assoc, List.set_append_right _ _ (by simp), List.length_replicate, Nat.sub_self]
  have h1 : o.drop (o.length - 1 - i) = y :: o.drop (o.length - 1 - i + 1) := by
    rw [List.drop_eq_getElem_cons hk, (List.getElem?_eq_some_iff.1 h).2]
  rw [h1]
  rfl
theorem invI_rt (l : List Ins) (x : Ins) : inI (rtI x ((l.length : Int) - 1 - invT l x)) = invI l x := rfl
def st26 (l : List Ins) (m s : Int) (i : Nat) (c : List Ins) : PS := ⟨⟨78, [(9, .int .i64 ((l.length : Int) - 1 - i)), (8, .int .i64 ((i : Nat) : Int)), (7, .sl 2 5 0 (List.length l)), (6, .int .i64 (l.length : Int)), (1, .ptr 0 0), (2, .ptr 1 0)]⟩, [⟨3, [code l, .int .i64 m, .int .i64 s], 0⟩, ⟨3, [.nils, .int .i64 0, .int .i64 0], 0⟩, ⟨5, List.flatMap Ins.cs c, 0⟩]⟩
theorem lp26 (l : List Ins) (m s : Int) (h29 h27 h47 h28 h11 : List PV → Option PV) (hT : TabOk Tryd.prog X.G [(29, h29), (27, h27), (47, h47), (28, h28), (11, h11)]) (hd : Wd l) (hw : WF l) (hn : l.length ≤ 300)
    (e27 : ∀ x : Ins, By x → h27 [x.pv] = some (.tup [.int .i64 (tgt x), .bool (tb x.k)])) (e28 : ∀ (x : Ins) (j : Int), By x → h28 [x.pv, .int .i64 j] = some (rtI x j).pv) (e11 : ∀ x : Ins, h11 [x.pv] = some (inI x).pv)
    (e47 : ∀ i : Int, h47 [imgP l m s, .int .i64 i] = some (.tup [.int .i64 ((part l i).getD 0), .bool (part l i).isSome])) :
    ∀ r i, i + r = l.length → LoopOk Tryd.prog X.G 0 (lpB Tryd.f26 7) (st26 l m s i (fir (invL l) i)) (.exit 0) ⟨⟨78, [(7, .sl 2 5 0 (List.length l)), (1, .ptr 0 0), (2, .ptr 1 0)]⟩, [⟨3, [code l, .int .i64 m, .int .i64 s], 0⟩, ⟨3, [.nils, .int .i64 0, .int .i64 0], 0⟩, ⟨5, List.flatMap Ins.cs (invL l), 0⟩]⟩ := by
  have hil := invL_len l
  intro r
  induction r with
  | zero =>
    intro i hi
    obtain rfl : i = l.length := by omega
    have hf : fir (invL l) l.length = invL l := by rw [← hil]; exact fir_all _
    rw [hf]
    refine round_ok env.mixed (tab_orc hT tn') (by kernel_rfl) (r26 h29 h27 h47 h28 h11 l (invL l) [] m s 0 0 0 ((l.length : Int) - 1 - (l.length : Nat)) 0 l.length 0 ⟨0, 0, 0, 0, 0⟩ ⟨0, 0, 0, 0, 0⟩ ⟨0, 0, 0, 0, 0⟩ false) ?_
    simp only [Holds, Pv.Next]
    refine ⟨fun h => absurd (of_decide_eq_true h) (by omega), fun _ => ⟨trivial, ⟨trivial, trivial, ⟨VW.sl rfl rfl rfl rfl, VW.ptr rfl rfl, VW.ptr rfl rfl, trivial⟩, ⟨BW.cells (.cons (VW.lst rfl rfl) (.cons (VW.int rfl) (.cons (VW.int rfl) .nil))), BW.flat rfl nb_z, BW.flat rfl (fun c hc => nb_cs hc), trivial⟩⟩, trivial, ?_⟩⟩
    first | exact trivial | rfl
  | succ r ih =>
    intro i hi
    obtain ⟨x, hx⟩ : ∃ x, l[i]? = some x := ⟨_, List.getElem?_eq_getElem (by omega)⟩
    have hx' : By x := hw x (List.mem_of_getElem? hx)
    have nx := ih (i + 1) (by omega)
    have hat : (invL l)[(invL l).length - 1 - i]? = some (invI l x) := by rw [hil]; exact invL_at hx
    have hset := fir_set (by rw [hil]; omega) hat
    rw [hil] at hset
    have hcs : ∀ a : Ins, (Ins.cs a).length = 5 := fun _ => rfl
    have px := px_code hx
    have hfl : l.length - 1 - i < (fir (invL l) i).length := by rw [fir_len _ _ (by rw [hil]; omega), hil]; omega
    have hjj : (l.length : Int) - 1 - (i : Int) = ((l.length - 1 - i : Nat) : Int) := by omega
    have hj2 : IntKind.i64.wrap (((l.length : Int) - 1 - (i : Int)) - 1) = (l.length : Int) - 1 - ((i + 1 : Nat) : Int) := by rw [w64 (by omega) (by omega)]; omega
    have e3 : pidx Tryd.prog 28 (.sl 2 5 0 l.length) (.int .i64 ((l.length : Int) - 1 - (i : Int))) = some (.ptr 2 ((l.length - 1 - i) * 5)) := by
      have := pidx_sl (P := Tryd.prog) (T := 28) (E := 23) (id := 2) (sz := 5) (off := 0) (len := l.length) (j := l.length - 1 - i) (k := .i64) Tryd.underlying28 sz23 (by omega)
      rw [hjj, this]
      congr 2
      omega
    have s3 : ∀ a b : Ins, pstore Tryd.prog [⟨3, [code l, I m, I s], 0⟩, ⟨3, [PV.nils, I 0, I 0], 0⟩, ⟨5, List.flatMap Ins.cs (fir (invL l) i), 0⟩, ⟨5, a.cs, 0⟩] 23 (.ptr 3 0) (.agg b.cs) = some [⟨3, [code l, I m, I s], 0⟩, ⟨3, [PV.nils, I 0, I 0], 0⟩, ⟨5, List.flatMap Ins.cs (fir (invL l) i), 0⟩, ⟨5, b.cs, 0⟩] := fun a b =>
      pstore_at (P := Tryd.prog) (hp := [⟨3, [code l, I m, I s], 0⟩, ⟨3, [PV.nils, I 0, I 0], 0⟩, ⟨5, List.flatMap Ins.cs (fir (invL l) i), 0⟩, ⟨5, a.cs, 0⟩]) (T := 23) (id := 3) (q := 0) (n := 5) (sz := 5) (x := .agg b.cs) (xs := b.cs) rfl sz23 rfl rfl (Nat.le_refl 5) rfl
    have s2 : ∀ a : Ins, pstore Tryd.prog [⟨3, [code l, I m, I s], 0⟩, ⟨3, [PV.nils, I 0, I 0], 0⟩, ⟨5, List.flatMap Ins.cs (fir (invL l) i), 0⟩, ⟨5, a.cs, 0⟩] 23 (.ptr 2 ((l.length - 1 - i) * 5)) (.agg (invI l x).cs) = some [⟨3, [code l, I m, I s], 0⟩, ⟨3, [PV.nils, I 0, I 0], 0⟩, ⟨5, List.flatMap Ins.cs (fir (invL l) (i + 1)), 0⟩, ⟨5, a.cs, 0⟩] := fun a => by
      have := pstore_at (P := Tryd.prog) (hp := [⟨3, [code l, I m, I s], 0⟩, ⟨3, [PV.nils, I 0, I 0], 0⟩, ⟨5, List.flatMap Ins.cs (fir (invL l) i), 0⟩, ⟨5, a.cs, 0⟩]) (T := 23) (id := 2) (q := (l.length - 1 - i) * 5) (n := 5) (sz := 5) (x := .agg (invI l x).cs) (xs := (invI l x).cs) rfl sz23 rfl rfl (flat_in hcs hfl) rfl
      rw [flat_set hcs _ _ _ hfl, hset] at this
      exact this
    have c27 : (tab X.sh [(29, h29), (27, h27), (47, h47), (28, h28), (11, h11)] []).iso 27 [x.pv] = some (.tup [.int .i64 (tgt x), .bool (tb x.k)]) := e27 x hx'
    cases ht : tb x.k with
    | true =>
      rw [ht] at c27
      obtain ⟨y, hy⟩ : ∃ y, rtI x ((l.length : Int) - 1 - invT l x) = y := ⟨_, rfl⟩
      obtain ⟨q, hq, hql⟩ := hd.target hx ht
      have hwr : IntKind.i64.wrap (IntKind.i64.wrap ((l.length : Int) - 1) - invT l x) = (l.length : Int) - 1 - invT l x := by
        rw [w64 (n := (l.length : Int) - 1) (by omega) (by omega), w64 (by omega) (by omega)]
      have c28 : (tab X.sh [(29, h29), (27, h27), (47, h47), (28, h28), (11, h11)] []).iso 28 [x.pv, .int .i64 (IntKind.i64.wrap (IntKind.i64.wrap ((l.length : Int) - 1) - invT l x))] = some y.pv := by
        rw [hwr, ← hy]; exact e28 x _ hx'
      have c28' : ¬ (x.k = 30 ∨ x.k = 31) → (tab X.sh [(29, h29), (27, h27), (47, h47), (28, h28), (11, h11)] []).iso 28 [x.pv, .int .i64 (IntKind.i64.wrap (IntKind.i64.wrap ((l.length : Int) - 1) - tgt x))] = some y.pv := fun hk => by
        have e0 : invT l x = tgt x := by unfold invT; rw [if_neg hk]; rfl
        rw [← e0]; exact c28
      have c47 : (x.k = 30 ∨ x.k = 31) → (tab X.sh [(29, h29), (27, h27), (47, h47), (28, h28), (11, h11)] []).iso 47 [imgP l m s, .int .i64 (tgt x)] = some (.tup [.int .i64 (invT l x), .bool true]) := fun hk => by
        have h1 := e47 (tgt x)
        obtain ⟨p, e, hp, hs⟩ := hd.call i x hx hk
        have ha : tgt x = (p : Int) := by
          unfold tgt tv
          rw [if_pos (by rcases hk with hk | hk <;> rw [hk] <;> rfl)]
          exact hp
        have hpt := (part_iff l p (e : Int)).2 ⟨e, rfl, hs.1⟩
        have e0 : invT l x = (part l (tgt x)).getD 0 := by unfold invT; rw [if_pos hk]; rfl
        have e1 : (part l (tgt x)).isSome = true := by rw [ha, hpt]; rfl
        rw [e1, ← e0] at h1
        exact h1
      have c11 : (tab X.sh [(29, h29), (27, h27), (47, h47), (28, h28), (11, h11)] []).iso 11 [y.pv] = some (invI l x).pv := by
        have := e11 y
        rw [← hy, invI_rt] at this
        rw [← hy]; exact this
      refine round_ok env.mixed (tab_orc hT tn') (by kernel_rfl) (r26 h29 h27 h47 h28 h11 l (fir (invL l) i) (fir (invL l) (i + 1)) m s (tgt x) (invT l x) 0 ((l.length : Int) - 1 - i) ((l.length : Int) - 1 - ((i + 1 : Nat) : Int)) i ((l.length - 1 - i) * 5) x y (invI l x) true) ?_
      simp only [Holds, Pv.Next]
      refine ⟨fun _ => ⟨congrArg (Option.map fun v => (v, _)) px, congrArg (Option.map fun v => (PV.tup [], v)) (s3 ⟨0, 0, 0, 0, 0⟩ x), fun _ => ⟨pcallv_iso rfl rfl c27, fun h30 => ?_, fun n30 => ⟨fun h31 => ?_, fun n31 => ?_⟩⟩, fun h => absurd h (by decide)⟩, fun h => absurd (of_decide_eq_false h) (by omega)⟩
      · have h : x.k = 30 ∨ x.k = 31 := .inl (beq_iff_eq.1 h30)
        exact ⟨pcallv_iso rfl rfl (c47 h), pcallv_iso rfl rfl c28, congrArg (Option.map fun v => (PV.tup [], v)) (s3 x y), pcallv_iso rfl rfl c11, congrArg (Option.map fun v => (v, _)) e3, congrArg (Option.map fun v => (PV.tup [], v)) (s2 y), ⟨trivial, trivial, ⟨VW.int hj2, VW.int (wsucc (by omega)), VW.sl rfl rfl rfl rfl, VW.int rfl, VW.ptr rfl rfl, VW.ptr rfl rfl, trivial⟩, ⟨BW.cells (.cons (VW.lst rfl rfl) (.cons (VW.int rfl) (.cons (VW.int rfl) .nil))), BW.flat rfl nb_z, BW.flat rfl (fun c hc => nb_cs hc), trivial⟩⟩, nx⟩
      · have h : x.k = 30 ∨ x.k = 31 := .inr (beq_iff_eq.1 h31)
        exact ⟨pcallv_iso rfl rfl (c47 h), pcallv_iso rfl rfl c28, congrArg (Option.map fun v => (PV.tup [], v)) (s3 x y), pcallv_iso rfl rfl c11, congrArg (Option.map fun v => (v, _)) e3, congrArg (Option.map fun v => (PV.tup [], v)) (s2 y), ⟨trivial, trivial, ⟨VW.int hj2, VW.int (wsucc (by omega)), VW.sl rfl rfl rfl rfl, VW.int rfl, VW.ptr rfl rfl, VW.ptr rfl rfl, trivial⟩, ⟨BW.cells (.cons (VW.lst rfl rfl) (.cons (VW.int rfl) (.cons (VW.int rfl) .nil))), BW.flat rfl nb_z, BW.flat rfl (fun c hc => nb_cs hc), trivial⟩⟩, nx⟩
      · have n1 := beq_eq_false_iff_ne.1 n30
        have n2 := beq_eq_false_iff_ne.1 n31
        have hk : ¬ (x.k = 30 ∨ x.k = 31) := by omega
        exact ⟨pcallv_iso rfl rfl (c28' hk), congrArg (Option.map fun v => (PV.tup [], v)) (s3 x y), pcallv_iso rfl rfl c11, congrArg (Option.map fun v => (v, _)) e3, congrArg (Option.map fun v => (PV.tup [], v)) (s2 y), ⟨trivial, trivial, ⟨VW.int hj2, VW.int (wsucc (by omega)), VW.sl rfl rfl rfl rfl, VW.int rfl, VW.ptr rfl rfl, VW.ptr rfl rfl, trivial⟩, ⟨BW.cells (.cons (VW.lst rfl rfl) (.cons (VW.int rfl) (.cons (VW.int rfl) .nil))), BW.flat rfl nb_z, BW.flat rfl (fun c hc => nb_cs hc), trivial⟩⟩, nx⟩
    | false =>
      rw [ht] at c27
      have c11 : (tab X.sh [(29, h29), (27, h27), (47, h47), (28, h28), (11, h11)] []).iso 11 [x.pv] = some (invI l x).pv := by
        rw [invI_no l ht]; exact e11 x
      refine round_ok env.mixed (tab_orc hT tn') (by kernel_rfl) (r26 h29 h27 h47 h28 h11 l (fir (invL l) i) (fir (invL l) (i + 1)) m s (tgt x) 0 0 ((l.length : Int) - 1 - i) ((l.length : Int) - 1 - ((i + 1 : Nat) : Int)) i ((l.length - 1 - i) * 5) x ⟨0, 0, 0, 0, 0⟩ (invI l x) false) ?_
      simp only [Holds, Pv.Next]
      refine ⟨fun _ => ⟨congrArg (Option.map fun v => (v, _)) px, congrArg (Option.map fun v => (PV.tup [], v)) (s3 ⟨0, 0, 0, 0, 0⟩ x), fun h => absurd h (by decide), fun _ => ⟨pcallv_iso rfl rfl c27, pcallv_iso rfl rfl c11, congrArg (Option.map fun v => (v, _)) e3, congrArg (Option.map fun v => (PV.tup [], v)) (s2 x), ⟨trivial, trivial, ⟨VW.int hj2, VW.int (wsucc (by omega)), VW.sl rfl rfl rfl rfl, VW.int rfl, VW.ptr rfl rfl, VW.ptr rfl rfl, trivial⟩, ⟨BW.cells (.cons (VW.lst rfl rfl) (.cons (VW.int rfl) (.cons (VW.int rfl) .nil))), BW.flat rfl nb_z, BW.flat rfl (fun c hc => nb_cs hc), trivial⟩⟩, nx⟩⟩, fun h => absurd (of_decide_eq_false h) (by omega)⟩
def Im.iv (x : Im) : Im := if ckE x.l x.m x.s = 0 then ⟨invL x.l, x.m, x.s⟩ else ⟨[], 0, 0⟩
theorem ok26 (x : Im) (hx : Sm x) : Ok Tryd.prog X.G 26 [x.pv] (.tup [x.iv.pv, .int .i64 x.ce]) := by
  obtain ⟨l, m, s⟩ := x
  obtain ⟨hw, hn⟩ : WF l ∧ l.length ≤ 300 := hx
  obtain ⟨h29, e29, o29⟩ := ent_ex Sm (fun x : Im => ([x.pv], PV.tup [.int .i64 (ckI x.l x.m x.s), .int .i64 x.ce])) Im.inj1
  obtain ⟨h27, e27, o27⟩ := ent_ex By (fun x : Ins => ([x.pv], PV.tup [.int .i64 (tgt x), .bool (tb x.k)])) (fun a b h => by
    simp only [List.cons.injEq, and_true] at h; rw [Ins.pv_inj h])
  obtain ⟨h47, e47, o47⟩ := ent_ex (fun p : Im × Int => WF p.1.l) (fun p => ([p.1.pv, .int .i64 p.2], PV.tup [.int .i64 ((part p.1.l p.2).getD 0), .bool (part p.1.l p.2).isSome])) (fun a b h => by
    simp only [List.cons.injEq, and_true, PV.int.injEq, true_and] at h; rw [Im.pv_inj h.1, h.2])
  obtain ⟨h28, e28, o28⟩ := ent_ex (fun p : Ins × Int => By p.1) (fun p => ([p.1.pv, .int .i64 p.2], (rtI p.1 p.2).pv)) (fun a b h => by
    simp only [List.cons.injEq, and_true, PV.int.injEq, true_and] at h; rw [Ins.pv_inj h.1, h.2])
  obtain ⟨h11, e11, o11⟩ := ent_ex (fun _ => True) (fun x : Ins => ([x.pv], (inI x).pv)) (fun a b h => by
    simp only [List.cons.injEq, and_true] at h; rw [Ins.pv_inj h])
  have hT : TabOk Tryd.prog X.G [(29, h29), (27, h27), (47, h47), (28, h28), (11, h11)] :=
    tk (fun l r e => by obtain ⟨a, ha, rfl, rfl⟩ := o29 l r e; exact ok29 a.l a.m a.s ha.1 ha.2) (tk (fun l r e => by obtain ⟨a, ha, rfl, rfl⟩ := o27 l r e; exact ok27 a ha) (tk (fun l r e => by obtain ⟨a, ha, rfl, rfl⟩ := o47 l r e; exact ok47 a.1.l a.1.m a.1.s a.2 ha) (tk (fun l r e => by obtain ⟨a, ha, rfl, rfl⟩ := o28 l r e; exact ok28 a.1 a.2 ha) (tk (fun l r e => by obtain ⟨a, ha, rfl, rfl⟩ := o11 l r e; exact ok11 a) tn))))
  have c29 : (tab X.sh [(29, h29), (27, h27), (47, h47), (28, h28), (11, h11)] []).iso 29 [imgP l m s] = some (.tup [.int .i64 (ckI l m s), .int .i64 (ckE l m s)]) := e29 ⟨l, m, s⟩ ⟨hw, hn⟩
  refine wok env (tab_orc hT tn') fd26 (t26 h29 h27 h47 h28 h11 l (invL l) m s (ckI l m s) (ckE l m s)) ?_
  simp only [Holds, Pv.Next]
  refine ⟨pcallv_iso rfl rfl c29, fun h => ?_, fun h => ?_⟩
  · have hne : ¬ ckE l m s = 0 := by simpa using h
    have e : (⟨l, m, s⟩ : Im).iv = ⟨[], 0, 0⟩ := by unfold Im.iv; exact if_neg hne
    rw [e]
    exact ⟨_, _, rfl, Sub.tup (.cons (Sub.agg (.cons (Sub.nils 5) (SubL.refl _))) (SubL.refl _))⟩
  · have h0 : ckE l m s = 0 := by simpa using h
    have e : (⟨l, m, s⟩ : Im).iv = ⟨invL l, m, s⟩ := by unfold Im.iv; exact if_pos h0
    have hd : Wd l := (wd_ck.1 h0).2
    have k2 : pmakeS Tryd.prog 2 28 (.int .i64 ((List.map Ins.pv l).length : Int)) (.int .i64 ((List.map Ins.pv l).length : Int)) = some (.sl 2 5 0 l.length, ⟨5, List.flatMap Ins.cs (List.replicate l.length ⟨0, 0, 0, 0, 0⟩), 0⟩) := by
      rw [List.length_map, pmakeS_eq (T := 28) (E := 23) (n := 5) (z := Ins.cs ⟨0, 0, 0, 0, 0⟩) Tryd.underlying28 sz23 z23 rfl (by decide) (bytes_ok by23 (by omega)) (by omega), rep_map]
    have lp := lp26 l m s h29 h27 h47 h28 h11 hT hd hw hn (fun x hx => e27 x hx) (fun x j hx => e28 (x, j) hx) (fun x => e11 x trivial) (fun i => e47 (⟨l, m, s⟩, i) hw) l.length 0 (by omega)
    rw [fir_zero, invL_len] at lp
    have hz : (l.length : Int) - 1 - ((0 : Nat) : Int) = (l.length : Int) - 1 := by omega
    unfold st26 at lp
    rw [hz] at lp
    have hwl : IntKind.i64.wrap (((List.map Ins.pv l).length : Int) - 1) = (l.length : Int) - 1 := by rw [List.length_map]; exact w64 (by omega) (by omega)
    refine ⟨congrArg (Option.map fun x => (x.1, _ ++ [x.2])) k2, ⟨trivial, trivial, ⟨VW.int hwl, VW.int rfl, VW.sl rfl rfl rfl rfl, VW.int (by rw [List.length_map]), VW.ptr rfl rfl, VW.ptr rfl rfl, trivial⟩, ⟨BW.cells (.cons (VW.lst rfl rfl) (.cons (VW.int rfl) (.cons (VW.int rfl) .nil))), BW.flat rfl nb_z, BW.flat rfl (fun c hc => nb_cs hc), trivial⟩⟩, lp, ?_⟩
    rw [e]
    refine ⟨_, _, fz_tup (fzL_cons (fz_agg (fzL_cons (by rw [← invL_len l]; exact fz_many (d := 2) rfl) (fzL_cons rfl (fzL_cons rfl rfl)))) (fzL_cons rfl rfl)), ?_⟩
    rw [show (⟨l, m, s⟩ : Im).ce = 0 from h0]
    exact Sub.refl _
theorem invL_wf {l : List Ins} (h : WF l) : WF (invL l) := fun y hy => by
  unfold invL at hy
  obtain ⟨x, hx, rfl⟩ := List.mem_map.1 (List.mem_reverse.1 hy)
  exact inv_range x.k (h x hx)
theorem inv_law (al : List PV) (h : Tys Tryd.prog [30] al) : Ok Tryd.prog X.G 7 al (.bool true) := by
  cases h with
  | cons _ _ _ p _ h hs =>
    cases hs
    obtain ⟨x, hw, e⟩ := img_ty h
    rw [e]
    clear h e
    obtain ⟨h10, e10, o10⟩ := ent_ex (fun _ => True) (fun _ : Unit => (([] : List PV), PV.bool true)) (fun _ _ _ => rfl)
    obtain ⟨h15, e15, o15⟩ := ent_ex (fun x : Im => WF x.l) (fun x : Im => ([x.pv], PV.bool (smB x))) Im.inj1
    obtain ⟨h26, e26, o26⟩ := ent_ex Sm (fun x : Im => ([x.pv], PV.tup [x.iv.pv, .int .i64 x.ce])) Im.inj1
    obtain ⟨h16, e16, o16⟩ := ent_ex Sm (fun x : Im => ([x.pv], PV.tup [x.op.pv, .int .i64 x.ce])) Im.inj1
    obtain ⟨h18, e18, o18⟩ := ent_ex (fun q : List Ins × List Ins => q.1.length ≤ 1000000) (fun q => ([code q.1, code q.2], PV.bool (decide (q.1 = q.2)))) (fun a b h => by
      simp only [code, List.cons.injEq, and_true, PV.lst.injEq, true_and] at h
      rw [pv_inj h.1, pv_inj h.2])
    obtain ⟨h19, e19, o19⟩ := ent_ex Sm (fun x : Im => ([x.pv], PV.int .i64 (rmN x))) Im.inj1
    have hT : TabOk Tryd.prog X.G [(10, h10), (15, h15), (26, h26), (16, h16), (18, h18), (19, h19)] :=
      tk (fun l r e => by obtain ⟨a, ha, rfl, rfl⟩ := o10 l r e; exact ok10) (tk (fun l r e => by obtain ⟨a, ha, rfl, rfl⟩ := o15 l r e; exact ok15 a ha) (tk (fun l r e => by obtain ⟨a, ha, rfl, rfl⟩ := o26 l r e; exact ok26 a ha) (tk (fun l r e => by obtain ⟨a, ha, rfl, rfl⟩ := o16 l r e; exact ok16 a ha) (tk (fun l r e => by obtain ⟨a, ha, rfl, rfl⟩ := o18 l r e; exact ok18 a.1 a.2 ha) (tk (fun l r e => by obtain ⟨a, ha, rfl, rfl⟩ := o19 l r e; exact ok19 a ha) tn)))))
    obtain ⟨l, m, s⟩ := x
    have c10 : (tab X.sh [(10, h10), (15, h15), (26, h26), (16, h16), (18, h18), (19, h19)] []).iso 10 [] = some (.bool true) := e10 () trivial
    have c15 : (tab X.sh [(10, h10), (15, h15), (26, h26), (16, h16), (18, h18), (19, h19)] []).iso 15 [imgP l m s] = some (.bool (smB ⟨l, m, s⟩)) := e15 ⟨l, m, s⟩ hw
    have fin : ∀ (bs : List Pv.Box), Fz bs (.bool true) (.bool true) := fun bs => ⟨_, _, rfl, Sub.refl _⟩
    cases hb : smB ⟨l, m, s⟩ with
    | false =>
      rw [hb] at c15
      refine wok env (tab_orc hT tn') fd7 (t7 h10 h15 h26 h16 h18 h19 l [] [] [] [] m s false 0) ?_
      simp only [Holds]
      exact ⟨pcallv_iso rfl rfl c10, fun h => absurd h (by decide), fun _ => ⟨pcallv_iso rfl rfl c15, pcallv_iso rfl rfl c10, fin _⟩⟩
    | true =>
      rw [hb] at c15
      obtain ⟨hs, h0⟩ := sm_of hw hb
      have hle : (opt l).length ≤ l.length := Sm.opt_le hs h0
      have hn : l.length ≤ 300 := hs.2
      have hck : ckE l m s = 0 := h0
      have hd : Wd l := (wd_ck.1 h0).2
      have hr := (wd_ck.1 hck).1
      have hi : Wd (invL l) := hd.inv (by omega)
      have hwi : WF (invL l) := invL_wf hw
      have hil := invL_len l
      have hci : ckE (invL l) m s = 0 := wd_ck.2 ⟨hr, hi⟩
      have hsi : Sm ⟨invL l, m, s⟩ := ⟨hwi, by show (invL l).length ≤ 300; omega⟩
      obtain ⟨_, hdo, hwo, _⟩ := red_all hd hw (by omega)
      have hco : ckE (opt l) m s = 0 := wd_ck.2 ⟨hr, hdo⟩
      have hso : Sm ⟨opt l, m, s⟩ := ⟨hwo, by show (opt l).length ≤ 300; omega⟩
      have hoi := opt_inv hd hw (by omega)
      have iv1 : (⟨l, m, s⟩ : Im).iv = ⟨invL l, m, s⟩ := if_pos hck
      have iv2 : (⟨opt l, m, s⟩ : Im).iv = ⟨invL (opt l), m, s⟩ := if_pos hco
      have c26 : (tab X.sh [(10, h10), (15, h15), (26, h26), (16, h16), (18, h18), (19, h19)] []).iso 26 [imgP l m s] = some (.tup [imgP (invL l) m s, .int .i64 0]) := by
        have := e26 ⟨l, m, s⟩ hs
        rw [iv1, h0] at this
        exact this
      have c16i : (tab X.sh [(10, h10), (15, h15), (26, h26), (16, h16), (18, h18), (19, h19)] []).iso 16 [imgP (invL l) m s] = some (.tup [imgP (invL (opt l)) m s, .int .i64 0]) := by
        have := e16 ⟨invL l, m, s⟩ hsi
        rw [Im.op_ok (x := ⟨invL l, m, s⟩) hci, show (⟨invL l, m, s⟩ : Im).ce = 0 from hci] at this
        rw [← hoi]
        exact this
      have c16 : (tab X.sh [(10, h10), (15, h15), (26, h26), (16, h16), (18, h18), (19, h19)] []).iso 16 [imgP l m s] = some (.tup [imgP (opt l) m s, .int .i64 0]) := by
        have := e16 ⟨l, m, s⟩ hs
        rw [Im.op_ok h0, h0] at this
        exact this
      have c26o : (tab X.sh [(10, h10), (15, h15), (26, h26), (16, h16), (18, h18), (19, h19)] []).iso 26 [imgP (opt l) m s] = some (.tup [imgP (invL (opt l)) m s, .int .i64 0]) := by
        have := e26 ⟨opt l, m, s⟩ hso
        rw [iv2, show (⟨opt l, m, s⟩ : Im).ce = 0 from hco] at this
        exact this
      have c18 : (tab X.sh [(10, h10), (15, h15), (26, h26), (16, h16), (18, h18), (19, h19)] []).iso 18 [code (invL (opt l)), code (invL (opt l))] = some (.bool true) := by
        have := e18 (invL (opt l), invL (opt l)) (by show (invL (opt l)).length ≤ _; rw [invL_len]; omega)
        rw [decide_eq_true rfl] at this
        exact this
      have r1 : rmN ⟨l, m, s⟩ = (l.length : Int) - ((opt l).length : Int) := if_pos h0
      have r2 : rmN ⟨invL l, m, s⟩ = (l.length : Int) - ((opt l).length : Int) := by
        have : rmN ⟨invL l, m, s⟩ = ((invL l).length : Int) - ((opt (invL l)).length : Int) := if_pos hci
        rw [this, hoi, invL_len, invL_len]
      have c19 : (tab X.sh [(10, h10), (15, h15), (26, h26), (16, h16), (18, h18), (19, h19)] []).iso 19 [imgP l m s] = some (.int .i64 ((l.length : Int) - ((opt l).length : Int))) := by
        have := e19 ⟨l, m, s⟩ hs
        rw [r1] at this
        exact this
      have c19i : (tab X.sh [(10, h10), (15, h15), (26, h26), (16, h16), (18, h18), (19, h19)] []).iso 19 [imgP (invL l) m s] = some (.int .i64 ((l.length : Int) - ((opt l).length : Int))) := by
        have := e19 ⟨invL l, m, s⟩ hsi
        rw [r2] at this
        exact this
      refine wok env (tab_orc hT tn') fd7 (t7 h10 h15 h26 h16 h18 h19 l (invL l) (invL (opt l)) (opt l) [] m s true ((l.length : Int) - ((opt l).length : Int))) ?_
      simp only [Holds]
      exact ⟨pcallv_iso rfl rfl c10, fun _ => ⟨pcallv_iso rfl rfl c15, pcallv_iso rfl rfl c26, pcallv_iso rfl rfl c16i, pcallv_iso rfl rfl c16, pcallv_iso rfl rfl c26o, pcallD_iso rfl rfl c18, pcallD_iso rfl rfl c19i, pcallD_iso rfl rfl c19, fun _ => fin _, fun h => absurd h (by simp)⟩, fun h => absurd h (by decide)⟩
end Go.Proofs.YtkfmhmkeikhdbaaDoor
