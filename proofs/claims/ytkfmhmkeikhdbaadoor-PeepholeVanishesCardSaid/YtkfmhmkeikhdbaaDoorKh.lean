/- The optimized image is normal. -/
import Derived.Test.YtkfmhmkeikhdbaaDoorKg
import Derived.Test.YtkfmhmkeikhdbaaDoorRf
namespace Go.Proofs.YtkfmhmkeikhdbaaDoor
open Go.Proofs.YtkfmhmkeikhdbaaDoor.Pv Go.RowKit
set_option maxRecDepth 100000
set_option maxHeartbeats 4000000
set_option linter.unusedSimpArgs false
set_option linter.unusedVariables false
theorem awk : Pv.iso Tryd.prog X 60 10 [] = some (.bool true) := by kernel_rfl
theorem ok10 : Ok Tryd.prog X.G 10 [] (.bool true) := ok_of_iso env awk
theorem cells23 : Tryd.prog.cellsOf 23 = 5 := by kernel_rfl
theorem ins_ty {fuel : Nat} {p : List PV} (h : Ty Tryd.prog fuel 23 p) : ∃ x : Ins, By x ∧ p = x.cs := by
  obtain ⟨m, parts, rfl, hl, hp⟩ := ty_struct Tryd.underlying23 h
  match parts, hl, hp with
  | [p0, p1, p2, p3, p4], _, hp =>
    obtain ⟨i0, rfl, h0, h0'⟩ := ty_int Tryd.underlying5 (hp 0 _ p0 rfl rfl)
    obtain ⟨i1, rfl, _⟩ := ty_int Tryd.underlying3 (hp 1 _ p1 rfl rfl)
    obtain ⟨i2, rfl, _⟩ := ty_int Tryd.underlying3 (hp 2 _ p2 rfl rfl)
    obtain ⟨i3, rfl, _⟩ := ty_int Tryd.underlying3 (hp 3 _ p3 rfl rfl)
    obtain ⟨i4, rfl, _⟩ := ty_int Tryd.underlying3 (hp 4 _ p4 rfl rfl)
    exact ⟨⟨i0, i1, i2, i3, i4⟩, ⟨h0, h0'⟩, rfl⟩
theorem list_ty {m : Nat} : ∀ es : List PV, (∀ x ∈ es, ∃ xs, x = Pv.elemOf 5 xs ∧ Ty Tryd.prog m 23 xs) → ∃ l : List Ins, WF l ∧ es = l.map Ins.pv
  | [], _ => ⟨[], fun x h => by simp at h, rfl⟩
  | e :: es, h => by
    obtain ⟨xs, rfl, ht⟩ := h e (by simp)
    obtain ⟨x, hx, rfl⟩ := ins_ty ht
    obtain ⟨l, hl, rfl⟩ := list_ty es (fun y hy => h y (by simp [hy]))
    refine ⟨x :: l, fun y hy => ?_, rfl⟩
    rcases List.mem_cons.1 hy with rfl | hy
    · exact hx
    · exact hl y hy
theorem img_ty {fuel : Nat} {p : List PV} (h : Ty Tryd.prog fuel 30 p) : ∃ x : Im, WF x.l ∧ Pv.valOf Tryd.prog 30 p = x.pv := by
  obtain ⟨m, parts, rfl, hl, hp⟩ := ty_struct Tryd.underlying30 h
  match parts, hl, hp with
  | [p0, p1, p2], _, hp =>
    obtain ⟨n, es, rfl, _, he⟩ := ty_slice Tryd.underlying28 (by rw [cells23]; decide) (hp 0 _ p0 rfl rfl)
    obtain ⟨i1, rfl, _⟩ := ty_int Tryd.underlying3 (hp 1 _ p1 rfl rfl)
    obtain ⟨i2, rfl, _⟩ := ty_int Tryd.underlying3 (hp 2 _ p2 rfl rfl)
    rw [cells23] at he
    obtain ⟨l, hw, rfl⟩ := list_ty es he
    refine ⟨⟨l, i1, i2⟩, hw, ?_⟩
    unfold Pv.valOf
    rw [Tryd.underlying30, cells23]
    rfl
theorem Im.op_sm {x : Im} (hx : Sm x) (h : x.ce = 0) : Sm x.op ∧ x.op.ce = 0 ∧ x.op.op = x.op := by
  have hd := wd_ck.1 h
  have hn : x.l.length ≤ 65536 := by have := hx.2; omega
  obtain ⟨_, h2, h3, _⟩ := red_all hd.2 hx.1 hn
  have hle := Sm.opt_le hx h
  have hc : ckE (opt x.l) x.m x.s = 0 := wd_ck.2 ⟨hd.1, h2⟩
  rw [Im.op_ok h]
  refine ⟨⟨h3, by have := hx.2; show (opt x.l).length ≤ 300; omega⟩, hc, ?_⟩
  rw [Im.op_ok (x := ⟨opt x.l, x.m, x.s⟩) hc]
  show (⟨opt (opt x.l), x.m, x.s⟩ : Im) = _
  rw [opt_opt hd.2 hx.1 hn]
theorem sm_of {x : Im} (hw : WF x.l) (h : smB x = true) : Sm x ∧ x.ce = 0 := by
  unfold smB at h
  simp only [Bool.and_eq_true, decide_eq_true_eq, beq_iff_eq] at h
  exact ⟨⟨hw, by omega⟩, h.2⟩
theorem nb_im (l : List Ins) (m s : Int) : ∀ c ∈ ([code l, I m, I s] : List PV), NB c := by
  intro c hc
  simp only [List.mem_cons, List.not_mem_nil, or_false] at hc
  rcases hc with rfl | rfl | rfl
  · exact NB.lst _ _
  · exact NB.int _ _
  · exact NB.int _ _
theorem lp5 (L : List Ins) (m s : Int) (hw : WF L) (hn : L.length ≤ 300) (h12 : List PV → Option PV) (hT : TabOk Tryd.prog X.G [(12, h12)]) (e12 : ∀ x y : Ins, By x → h12 [x.pv, y.pv] = some (.bool (can x y)))
    (hc : ∀ (i : Nat) (x y : Ins), L[i]? = some x → L[i + 1]? = some y → can x y = false) :
    ∀ r i, L.length ≤ i + 1 + r → i ≤ 300 → LoopOk Tryd.prog X.G 0 (lpB Tryd.f5 7) ⟨⟨75, [(5, .int .i64 ((i + 1 : Nat) : Int)), (3, .ptr 0 0)]⟩, [⟨3, [code L, .int .i64 m, .int .i64 s], 0⟩]⟩ (.exit 0) ⟨⟨75, [(3, .ptr 0 0)]⟩, [⟨3, [code L, .int .i64 m, .int .i64 s], 0⟩]⟩ := by
  intro r
  induction r with
  | zero =>
    intro i hi hi3
    refine round_ok env.mixed (tab_orc hT tn') (by kernel_rfl) (r5 h12 L m s i ⟨0, 0, 0, 0, 0⟩ ⟨0, 0, 0, 0, 0⟩) ?_
    simp only [Holds, Pv.Next]
    exact ⟨fun h => absurd (of_decide_eq_true h) (by rw [List.length_map]; omega), fun _ => ⟨trivial, ⟨trivial, trivial, ⟨VW.ptr rfl rfl, trivial⟩, ⟨BW.flat rfl (nb_im L m s), trivial⟩⟩, trivial, rfl⟩⟩
  | succ r ih =>
    intro i hi hi3
    by_cases hlt : i + 1 < L.length
    · obtain ⟨x, hx⟩ : ∃ x, L[i]? = some x := ⟨_, List.getElem?_eq_getElem (by omega)⟩
      obtain ⟨y, hy⟩ : ∃ y, L[i + 1]? = some y := ⟨_, List.getElem?_eq_getElem hlt⟩
      have c12 : (tab X.sh [(12, h12)] []).iso 12 [x.pv, y.pv] = some (.bool false) := by
        rw [← hc i x y hx hy]; exact e12 x y (hw x (List.mem_of_getElem? hx))
      have p1 := px_code hx
      have p2 := px_code hy
      have hs := sub_i64 (n := i + 1) (by omega) (by omega)
      rw [show i + 1 - 1 = i by omega] at hs
      refine round_ok env.mixed (tab_orc hT tn') (by kernel_rfl) (r5 h12 L m s i x y) ?_
      simp only [Holds, Pv.Next]
      refine ⟨fun _ => ⟨by rw [hs]; exact congrArg (Option.map fun v => (v, _)) p1, congrArg (Option.map fun v => (v, _)) p2, pcallD_iso rfl rfl c12, ⟨trivial, trivial, ⟨VW.int (wsucc (by omega)), VW.ptr rfl rfl, trivial⟩, ⟨BW.flat rfl (nb_im L m s), trivial⟩⟩, ih (i + 1) (by omega) (by omega)⟩, fun h => absurd (of_decide_eq_false h) (by rw [List.length_map]; omega)⟩
    · refine round_ok env.mixed (tab_orc hT tn') (by kernel_rfl) (r5 h12 L m s i ⟨0, 0, 0, 0, 0⟩ ⟨0, 0, 0, 0, 0⟩) ?_
      simp only [Holds, Pv.Next]
      exact ⟨fun h => absurd (of_decide_eq_true h) (by rw [List.length_map]; omega), fun _ => ⟨trivial, ⟨trivial, trivial, ⟨VW.ptr rfl rfl, trivial⟩, ⟨BW.flat rfl (nb_im L m s), trivial⟩⟩, trivial, rfl⟩⟩
theorem Im.inj1 {α : Type} {f : Im → α} (a b : Im) (h : ([a.pv], f a).1 = ([b.pv], f b).1) : ([a.pv], f a).2 = ([b.pv], f b).2 := by
  simp only [List.cons.injEq, and_true] at h
  rw [Im.pv_inj h]
theorem norm_law (al : List PV) (h : Tys Tryd.prog [30] al) : Ok Tryd.prog X.G 5 al (.bool true) := by
  cases h with
  | cons _ _ _ p _ h hs =>
    cases hs
    obtain ⟨x, hw, e⟩ := img_ty h
    rw [e]
    clear h e
    obtain ⟨h10, e10, o10⟩ := ent_ex (fun _ => True) (fun _ : Unit => (([] : List PV), PV.bool true)) (fun _ _ _ => rfl)
    obtain ⟨h15, e15, o15⟩ := ent_ex (fun x : Im => WF x.l) (fun x : Im => ([x.pv], PV.bool (smB x))) Im.inj1
    obtain ⟨h16, e16, o16⟩ := ent_ex Sm (fun x : Im => ([x.pv], PV.tup [x.op.pv, .int .i64 x.ce])) Im.inj1
    obtain ⟨h20, e20, o20⟩ := ent_ex Sm (fun x : Im => ([x.pv], PV.bool (x.ce == 0))) Im.inj1
    obtain ⟨h18, e18, o18⟩ := ent_ex (fun q : List Ins × List Ins => q.1.length ≤ 1000000) (fun q => ([code q.1, code q.2], PV.bool (decide (q.1 = q.2)))) (fun a b h => by
      simp only [code, List.cons.injEq, and_true, PV.lst.injEq, true_and] at h
      rw [pv_inj h.1, pv_inj h.2])
    obtain ⟨h19, e19, o19⟩ := ent_ex Sm (fun x : Im => ([x.pv], PV.int .i64 (rmN x))) Im.inj1
    have hT : TabOk Tryd.prog X.G [(10, h10), (15, h15), (16, h16), (20, h20), (18, h18), (19, h19)] :=
      tk (fun l r e => by obtain ⟨a, ha, rfl, rfl⟩ := o10 l r e; exact ok10) (tk (fun l r e => by obtain ⟨a, ha, rfl, rfl⟩ := o15 l r e; exact ok15 a ha) (tk (fun l r e => by obtain ⟨a, ha, rfl, rfl⟩ := o16 l r e; exact ok16 a ha) (tk (fun l r e => by obtain ⟨a, ha, rfl, rfl⟩ := o20 l r e; exact ok20 a.l a.m a.s ha.1 ha.2) (tk (fun l r e => by obtain ⟨a, ha, rfl, rfl⟩ := o18 l r e; exact ok18 a.1 a.2 ha) (tk (fun l r e => by obtain ⟨a, ha, rfl, rfl⟩ := o19 l r e; exact ok19 a ha) tn)))))
    obtain ⟨l, m, s⟩ := x
    have c10 : (tab X.sh [(10, h10), (15, h15), (16, h16), (20, h20), (18, h18), (19, h19)] []).iso 10 [] = some (.bool true) := e10 () trivial
    have c15 : (tab X.sh [(10, h10), (15, h15), (16, h16), (20, h20), (18, h18), (19, h19)] []).iso 15 [imgP l m s] = some (.bool (smB ⟨l, m, s⟩)) := e15 ⟨l, m, s⟩ hw
    have fin : ∀ (bs : List Pv.Box), Fz bs (.bool true) (.bool true) := fun bs => ⟨_, _, rfl, Sub.refl _⟩
    cases hb : smB ⟨l, m, s⟩ with
    | false =>
      rw [hb] at c15
      refine wok env (tab_orc hT tn') fd5 (t5 h10 h15 h16 h20 h18 h19 l [] m s false) ?_
      simp only [Holds]
      exact ⟨pcallv_iso rfl rfl c10, fun h => absurd h (by decide), fun _ => ⟨pcallv_iso rfl rfl c15, pcallv_iso rfl rfl c10, fin _⟩⟩
    | true =>
      rw [hb] at c15
      obtain ⟨hs, h0⟩ := sm_of hw hb
      obtain ⟨hs', h0', hop⟩ := Im.op_sm hs h0
      have hle := Sm.opt_le hs h0
      have hd := (wd_ck.1 h0).2
      have he := Im.op_ok h0
      rw [he] at hs' h0' hop
      have hw' : WF (opt l) := hs'.1
      have hn' : (opt l).length ≤ 300 := hs'.2
      have c16 : (tab X.sh [(10, h10), (15, h15), (16, h16), (20, h20), (18, h18), (19, h19)] []).iso 16 [imgP l m s] = some (.tup [imgP (opt l) m s, .int .i64 0]) := by
        have := e16 ⟨l, m, s⟩ hs
        rw [he, h0] at this
        exact this
      have c16' : (tab X.sh [(10, h10), (15, h15), (16, h16), (20, h20), (18, h18), (19, h19)] []).iso 16 [imgP (opt l) m s] = some (.tup [imgP (opt l) m s, .int .i64 0]) := by
        have := e16 ⟨opt l, m, s⟩ hs'
        rw [hop, h0'] at this
        exact this
      have c20 : (tab X.sh [(10, h10), (15, h15), (16, h16), (20, h20), (18, h18), (19, h19)] []).iso 20 [imgP (opt l) m s] = some (.bool true) := by
        have := e20 ⟨opt l, m, s⟩ hs'
        rw [h0'] at this
        exact this
      have c18 : (tab X.sh [(10, h10), (15, h15), (16, h16), (20, h20), (18, h18), (19, h19)] []).iso 18 [code (opt l), code (opt l)] = some (.bool true) := by
        have := e18 (opt l, opt l) (by show (opt l).length ≤ _; omega)
        rw [decide_eq_true rfl] at this
        exact this
      have c19 : (tab X.sh [(10, h10), (15, h15), (16, h16), (20, h20), (18, h18), (19, h19)] []).iso 19 [imgP (opt l) m s] = some (.int .i64 0) := by
        have := e19 ⟨opt l, m, s⟩ hs'
        have e : rmN ⟨opt l, m, s⟩ = 0 := by
          unfold rmN
          rw [if_pos h0']
          have : opt (opt l) = opt l := by
            rw [Im.op_ok h0'] at hop
            exact congrArg Im.l hop
          show ((opt l).length : Int) - ((opt (opt l)).length : Int) = 0
          rw [this]; omega
        rw [e] at this
        exact this
      obtain ⟨h12, e12, o12⟩ := ent_ex (fun p : Ins × Ins => By p.1) (fun p : Ins × Ins => ([p.1.pv, p.2.pv], .bool (can p.1 p.2))) (fun a b h => by
        simp only [List.cons.injEq, and_true] at h
        rw [Ins.pv_inj h.1, Ins.pv_inj h.2])
      have hT2 : TabOk Tryd.prog X.G [(12, h12)] := tk (fun l r e => by obtain ⟨a, ha, rfl, rfl⟩ := o12 l r e; exact ok12 a.1 a.2 ha) tn
      have lp := lp5 (opt l) m s hw' hn' h12 hT2 (fun x y hx => e12 (x, y) hx) (fun i x y hx hy => opt_nc (l := l) hd hw (by have : l.length ≤ 300 := hs.2; omega) hx hy) (opt l).length 0 (by omega) (by omega)
      refine wok env (tab_orc hT tn') fd5 (t5 h10 h15 h16 h20 h18 h19 l (opt l) m s true) ?_
      simp only [Holds]
      refine ⟨pcallv_iso rfl rfl c10, fun _ => ⟨pcallv_iso rfl rfl c15, pcallv_iso rfl rfl c16, pcallv_iso rfl rfl c20, fun h => absurd (of_decide_eq_true h) ?_, fun _ => ⟨⟨trivial, trivial, ⟨VW.int rfl, VW.ptr rfl rfl, trivial⟩, ⟨BW.flat rfl (nb_im (opt l) m s), trivial⟩⟩, lp, pcallv_iso rfl rfl c16', pcallv_iso rfl rfl c18, pcallv_iso rfl rfl c19, fin _⟩⟩, fun h => absurd h (by decide)⟩
      have hle' : (opt l).length ≤ l.length := hle
      rw [List.length_map, List.length_map]; omega
end Go.Proofs.YtkfmhmkeikhdbaaDoor
