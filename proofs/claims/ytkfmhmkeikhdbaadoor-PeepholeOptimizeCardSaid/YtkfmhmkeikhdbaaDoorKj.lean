/- The reference's Optimize, and the statement on it. -/
import Derived.Test.YtkfmhmkeikhdbaaDoorKi
import Derived.Test.YtkfmhmkeikhdbaaDoorKh
namespace Go.Proofs.YtkfmhmkeikhdbaaDoor
open Go.Proofs.YtkfmhmkeikhdbaaDoor.Pv Go.RowKit
set_option maxRecDepth 100000
set_option maxHeartbeats 8000000
set_option linter.unusedSimpArgs false
set_option linter.unusedVariables false
/-- what the loop of the reference keeps: the code is that of a word which cuts have made of the first -/
structure Iv (l : List Ins) (w : List (Ins × Int)) : Prop where
  cw : Cw w
  wd : Wd (outp w)
  wf : WF (outp w)
  le : w.length ≤ 300
  rd : red lc w = red lc (lw l)
theorem split_at {α : Type} {w : List α} {q : Nat} {a b : α} (ha : w[q]? = some a) (hb : w[q + 1]? = some b) : ∃ u v, w = u ++ a :: b :: v ∧ u.length = q := by
  have hl := (List.getElem?_eq_some_iff.1 hb).1
  refine ⟨w.take q, w.drop (q + 2), ?_, by rw [List.length_take]; omega⟩
  have h1 : w.drop q = a :: w.drop (q + 1) := by
    rw [List.drop_eq_getElem_cons (by omega)]
    rw [(List.getElem?_eq_some_iff.1 ha).2]
  have h2 : w.drop (q + 1) = b :: w.drop (q + 2) := by
    rw [List.drop_eq_getElem_cons hl]
    rw [(List.getElem?_eq_some_iff.1 hb).2]
  rw [← h2, ← h1, List.take_append_drop]
theorem lp17 (l : List Ins) (h14 h37 : List PV → Option PV) (hT : TabOk Tryd.prog X.G [(14, h14), (37, h37)])
    (e14 : ∀ x y : Ins, h14 [x.pv, y.pv] = some (.bool (canR x y))) (e37 : ∀ (L : List Ins) (k : Nat), (∀ x ∈ L, vld x = true) → L.length ≤ 1000 → k ≤ 1000 → h37 [code L, .int .i64 ((k : Nat) : Int)] = some (code (rmv L k))) :
    ∀ (n : Nat) (w : List (Ins × Int)) (k : Int), Iv l w → -1 ≤ k → k ≤ 300 → (∀ (j : Nat) (x y : Ins), k < j → (outp w)[j]? = some x → (outp w)[j + 1]? = some y → can x y = false) → w.length * 1000 + (k + 1).toNat ≤ n →
    LoopOk Tryd.prog X.G 0 (lpB Tryd.f17 2) ⟨⟨34, [(3, .int .i64 k), (0, code (outp w))]⟩, []⟩ (.exit 0) ⟨⟨34, [(0, code (opt l))]⟩, []⟩ := by
  intro n
  induction n using Nat.strongRecOn with
  | ind n ih =>
    intro w k hi hk hk3 hno hn
    by_cases hk0 : k ≥ 0
    · obtain ⟨q, rfl⟩ : ∃ q : Nat, k = q := ⟨k.toNat, by omega⟩
      have hq1 : IntKind.i64.wrap ((q : Int) + 1) = ((q + 1 : Nat) : Int) := wsucc (by omega)
      have hq2 : IntKind.i64.wrap ((q : Int) - 1) = (q : Int) - 1 := w64 (by omega) (by omega)
      by_cases hlt : q + 1 < (outp w).length
      · have hwl := outp_len w
        obtain ⟨a, ha⟩ : ∃ a, w[q]? = some a := ⟨_, List.getElem?_eq_getElem (by omega)⟩
        obtain ⟨b, hb⟩ : ∃ b, w[q + 1]? = some b := ⟨_, List.getElem?_eq_getElem (by omega)⟩
        have hx := outp_at ha
        have hy := outp_at hb
        have hlc := outp_can hi.cw ha hb
        generalize rtI a.1 (pos w (tgt a.1)) = x at hx hlc
        generalize rtI b.1 (pos w (tgt b.1)) = y at hy hlc
        have px := px_code hx
        have py := px_code hy
        have c14 : (tab X.sh [(14, h14), (37, h37)] []).iso 14 [x.pv, y.pv] = some (.bool (can x y)) := by
          rw [← can_ref (hi.wf x (List.mem_of_getElem? hx)) (hi.wd.vl q x hx)]
          exact e14 x y
        cases hc : can x y with
        | true =>
          obtain ⟨u, v, rfl, rfl⟩ := split_at ha hb
          rw [hc] at hlc c14
          have hab : lc a b = true := hlc.symm
          have hcut := outp_cut hi.cw hab
          have hpk := cut_pk hi.cw hab hi.wd (by have := hi.le; omega)
          have hle := hi.le
          simp only [List.length_append, List.length_cons] at hle hn
          have hi' : Iv l (u ++ v) := ⟨hi.cw.cut hab, by rw [hcut]; exact hpk.wd_rmv, by rw [hcut]; exact rmv_wf hi.wf _, by simp only [List.length_append]; omega, by rw [← hi.rd]; exact (red_cut lc_back hab u v).symm⟩
          have c37 : (tab X.sh [(14, h14), (37, h37)] []).iso 37 [code (outp (u ++ a :: b :: v)), .int .i64 ((u.length : Nat) : Int)] = some (code (outp (u ++ v))) := by
            rw [hcut]
            exact e37 _ _ (fun z hz => by obtain ⟨i, hz'⟩ := List.mem_iff_getElem?.1 hz; exact hi.wd.vl i z hz') (by rw [outp_len]; have := hi.le; omega) (by omega)
          have hL' : (outp (u ++ v)).length = u.length + v.length := by rw [outp_len, List.length_append]
          have nx := ih ((u ++ v).length * 1000 + (((outp (u ++ v)).length : Int) - 1 + 1).toNat) (by rw [hL', List.length_append]; omega) (u ++ v) (((outp (u ++ v)).length : Int) - 1) hi' (by omega) (by rw [hL']; omega) (fun j x y hj hx hy => by
            have := (List.getElem?_eq_some_iff.1 hx).1
            omega) (Nat.le_refl _)
          have hw3 : IntKind.i64.wrap (((List.map Ins.pv (outp (u ++ v))).length : Int) - 1) = ((outp (u ++ v)).length : Int) - 1 := by
            rw [List.length_map]; exact w64 (by omega) (by rw [hL']; omega)
          refine round_ok env.mixed (tab_orc hT tn') (by kernel_rfl) (r17 h14 h37 (outp (u ++ a :: b :: v)) (outp (u ++ v)) (u.length : Int) 0 (((outp (u ++ v)).length : Int) - 1) x y true) ?_
          simp only [Holds, Pv.Next]
          refine ⟨fun _ => ⟨fun _ => ⟨congrArg (Option.map fun v => (v, _)) px, by rw [hq1]; exact congrArg (Option.map fun v => (v, _)) py, fun _ => ⟨pcallD_iso rfl rfl c14, pcallv_iso rfl rfl c37, ⟨trivial, trivial, ⟨VW.int hw3, VW.lst rfl rfl, trivial⟩, trivial⟩, nx⟩, fun h => absurd h (by decide)⟩, fun h => absurd (of_decide_eq_false h) ?_⟩, fun h => absurd (of_decide_eq_false h) (by omega)⟩
          rw [hq1, List.length_map]; omega
        | false =>
          rw [hc] at c14
          have nx := ih (w.length * 1000 + ((q : Int) - 1 + 1).toNat) (by omega) w ((q : Int) - 1) hi (by omega) (by omega) (fun j x' y' hj hx' hy' => by
            by_cases e : j = q
            · subst e
              rw [hx] at hx'; rw [hy] at hy'
              cases hx'; cases hy'
              exact hc
            · exact hno j x' y' (by omega) hx' hy') (Nat.le_refl _)
          refine round_ok env.mixed (tab_orc hT tn') (by kernel_rfl) (r17 h14 h37 (outp w) [] (q : Int) ((q : Int) - 1) 0 x y false) ?_
          simp only [Holds, Pv.Next]
          refine ⟨fun _ => ⟨fun _ => ⟨congrArg (Option.map fun v => (v, _)) px, by rw [hq1]; exact congrArg (Option.map fun v => (v, _)) py, fun h => absurd h (by decide), fun _ => ⟨pcallD_iso rfl rfl c14, ⟨trivial, trivial, ⟨VW.int hq2, VW.lst rfl rfl, trivial⟩, trivial⟩, nx⟩⟩, fun h => absurd (of_decide_eq_false h) ?_⟩, fun h => absurd (of_decide_eq_false h) (by omega)⟩
          rw [hq1, List.length_map]; omega
      · have nx := ih (w.length * 1000 + ((q : Int) - 1 + 1).toNat) (by omega) w ((q : Int) - 1) hi (by omega) (by omega) (fun j x' y' hj hx' hy' => by
          have := (List.getElem?_eq_some_iff.1 hy').1
          omega) (Nat.le_refl _)
        refine round_ok env.mixed (tab_orc hT tn') (by kernel_rfl) (r17 h14 h37 (outp w) [] (q : Int) ((q : Int) - 1) 0 ⟨0, 0, 0, 0, 0⟩ ⟨0, 0, 0, 0, 0⟩ false) ?_
        simp only [Holds, Pv.Next]
        refine ⟨fun _ => ⟨fun h => absurd (of_decide_eq_true h) ?_, fun _ => ⟨⟨trivial, trivial, ⟨VW.int hq2, VW.lst rfl rfl, trivial⟩, trivial⟩, nx⟩⟩, fun h => absurd (of_decide_eq_false h) (by omega)⟩
        rw [hq1, List.length_map]; omega
    · have hnw : Nw lc w := fun i p q hp hq => by
        have := hno i _ _ (by omega) (outp_at hp) (outp_at hq)
        rw [outp_can hi.cw hp hq] at this
        exact this
      have he := opt_of hi.rd hnw
      refine round_ok env.mixed (tab_orc hT tn') (by kernel_rfl) (r17 h14 h37 (outp w) [] k 0 0 ⟨0, 0, 0, 0, 0⟩ ⟨0, 0, 0, 0, 0⟩ false) ?_
      simp only [Holds, Pv.Next]
      refine ⟨fun h => absurd (of_decide_eq_true h) hk0, fun _ => ⟨trivial, ⟨trivial, trivial, ⟨VW.lst rfl rfl, trivial⟩, trivial⟩, trivial, ?_⟩⟩
      rw [he]
theorem ok17 (l : List Ins) (hd : Wd l) (hw : WF l) (hn : l.length ≤ 300) : Ok Tryd.prog X.G 17 [code l] (code (opt l)) := by
  obtain ⟨h14, e14, o14⟩ := ent_ex (fun _ => True) (fun p : Ins × Ins => ([p.1.pv, p.2.pv], PV.bool (canR p.1 p.2))) (fun a b h => by
    simp only [List.cons.injEq, and_true] at h
    rw [Ins.pv_inj h.1, Ins.pv_inj h.2])
  obtain ⟨h37, e37, o37⟩ := ent_ex (fun p : List Ins × Nat => (∀ x ∈ p.1, vld x = true) ∧ p.1.length ≤ 1000 ∧ p.2 ≤ 1000) (fun p : List Ins × Nat => ([code p.1, PV.int .i64 ((p.2 : Nat) : Int)], code (rmv p.1 p.2))) (fun a b h => by
    simp only [code, List.cons.injEq, and_true, PV.lst.injEq, PV.int.injEq, true_and, Int.natCast_inj] at h
    rw [pv_inj h.1, h.2])
  have hT : TabOk Tryd.prog X.G [(14, h14), (37, h37)] := tk (fun l r e => by obtain ⟨a, ha, rfl, rfl⟩ := o14 l r e; exact ok14 a.1 a.2) (tk (fun l r e => by obtain ⟨a, ha, rfl, rfl⟩ := o37 l r e; exact ok37 a.1 a.2 ha.1 ha.2.1 ha.2.2) tn)
  have ho := outp_lw hd
  have hi : Iv l (lw l) := ⟨lw_cw hd, by rw [ho]; exact hd, by rw [ho]; exact hw, by rw [lw_len]; exact hn, rfl⟩
  have hk : IntKind.i64.wrap (((List.map Ins.pv l).length : Int) - 2) = (l.length : Int) - 2 := by rw [List.length_map]; exact w64 (by omega) (by omega)
  have go : ∀ k : Int, k = (l.length : Int) - 2 → LoopOk Tryd.prog X.G 0 (lpB Tryd.f17 2) ⟨⟨34, [(3, .int .i64 k), (0, code l)]⟩, []⟩ (.exit 0) ⟨⟨34, [(0, code (opt l))]⟩, []⟩ := fun k hk => by
    by_cases h0 : -1 ≤ k
    · have := lp17 l h14 h37 hT (fun x y => e14 (x, y) trivial) (fun L k h1 h2 h3 => e37 (L, k) ⟨h1, h2, h3⟩) _ (lw l) k hi h0 (by omega) (fun j x y hj hx hy => by
        have := (List.getElem?_eq_some_iff.1 hy).1
        rw [ho] at this
        omega) (Nat.le_refl _)
      rw [ho] at this
      exact this
    · have hl : l.length = 0 := by omega
      obtain rfl := List.length_eq_zero_iff.1 hl
      refine round_ok env.mixed (tab_orc hT tn') (by kernel_rfl) (r17 h14 h37 [] [] k 0 0 ⟨0, 0, 0, 0, 0⟩ ⟨0, 0, 0, 0, 0⟩ false) ?_
      simp only [Holds, Pv.Next]
      refine ⟨fun h => absurd (of_decide_eq_true h) (by omega), fun _ => ⟨trivial, ⟨trivial, trivial, ⟨VW.lst rfl rfl, trivial⟩, trivial⟩, trivial, ?_⟩⟩
      first | exact trivial | rfl
  refine wok env (tab_orc hT tn') fd17 (t17 h14 h37 l (opt l) ((l.length : Int) - 2)) ?_
  simp only [Holds]
  exact ⟨⟨trivial, trivial, ⟨VW.int hk, VW.lst rfl rfl, trivial⟩, trivial⟩, go _ rfl, ⟨_, _, rfl, Sub.refl _⟩⟩
theorem opt_law (al : List PV) (h : Tys Tryd.prog [30] al) : Ok Tryd.prog X.G 4 al (.bool true) := by
  cases h with
  | cons _ _ _ p _ h hs =>
    cases hs
    obtain ⟨x, hw, e⟩ := img_ty h
    rw [e]
    clear h e
    obtain ⟨h10, e10, o10⟩ := ent_ex (fun _ => True) (fun _ : Unit => (([] : List PV), PV.bool true)) (fun _ _ _ => rfl)
    obtain ⟨h15, e15, o15⟩ := ent_ex (fun x : Im => WF x.l) (fun x : Im => ([x.pv], PV.bool (smB x))) Im.inj1
    obtain ⟨h16, e16, o16⟩ := ent_ex Sm (fun x : Im => ([x.pv], PV.tup [x.op.pv, .int .i64 x.ce])) Im.inj1
    obtain ⟨h17, e17, o17⟩ := ent_ex (fun l : List Ins => Wd l ∧ WF l ∧ l.length ≤ 300) (fun l => ([code l], code (opt l))) (fun a b h => by
      simp only [code, List.cons.injEq, and_true, PV.lst.injEq, true_and] at h
      rw [pv_inj h])
    obtain ⟨h18, e18, o18⟩ := ent_ex (fun q : List Ins × List Ins => q.1.length ≤ 1000000) (fun q => ([code q.1, code q.2], PV.bool (decide (q.1 = q.2)))) (fun a b h => by
      simp only [code, List.cons.injEq, and_true, PV.lst.injEq, true_and] at h
      rw [pv_inj h.1, pv_inj h.2])
    obtain ⟨h19, e19, o19⟩ := ent_ex Sm (fun x : Im => ([x.pv], PV.int .i64 (rmN x))) Im.inj1
    have hT : TabOk Tryd.prog X.G [(10, h10), (15, h15), (16, h16), (17, h17), (18, h18), (19, h19)] :=
      tk (fun l r e => by obtain ⟨a, ha, rfl, rfl⟩ := o10 l r e; exact ok10) (tk (fun l r e => by obtain ⟨a, ha, rfl, rfl⟩ := o15 l r e; exact ok15 a ha) (tk (fun l r e => by obtain ⟨a, ha, rfl, rfl⟩ := o16 l r e; exact ok16 a ha) (tk (fun l r e => by obtain ⟨a, ha, rfl, rfl⟩ := o17 l r e; exact ok17 a ha.1 ha.2.1 ha.2.2) (tk (fun l r e => by obtain ⟨a, ha, rfl, rfl⟩ := o18 l r e; exact ok18 a.1 a.2 ha) (tk (fun l r e => by obtain ⟨a, ha, rfl, rfl⟩ := o19 l r e; exact ok19 a ha) tn)))))
    obtain ⟨l, m, s⟩ := x
    have c10 : (tab X.sh [(10, h10), (15, h15), (16, h16), (17, h17), (18, h18), (19, h19)] []).iso 10 [] = some (.bool true) := e10 () trivial
    have c15 : (tab X.sh [(10, h10), (15, h15), (16, h16), (17, h17), (18, h18), (19, h19)] []).iso 15 [imgP l m s] = some (.bool (smB ⟨l, m, s⟩)) := e15 ⟨l, m, s⟩ hw
    have fin : ∀ (bs : List Pv.Box), Fz bs (.bool true) (.bool true) := fun bs => ⟨_, _, rfl, Sub.refl _⟩
    cases hb : smB ⟨l, m, s⟩ with
    | false =>
      rw [hb] at c15
      refine wok env (tab_orc hT tn') fd4 (t4 h10 h15 h16 h17 h18 h19 l [] m s false 0) ?_
      simp only [Holds]
      exact ⟨pcallv_iso rfl rfl c10, fun h => absurd h (by decide), fun _ => ⟨pcallv_iso rfl rfl c15, pcallv_iso rfl rfl c10, fin _⟩⟩
    | true =>
      rw [hb] at c15
      obtain ⟨hs, h0⟩ := sm_of hw hb
      have hle : (opt l).length ≤ l.length := Sm.opt_le hs h0
      have hn : l.length ≤ 300 := hs.2
      have hd : Wd l := (wd_ck.1 h0).2
      have he := Im.op_ok h0
      have c16 : (tab X.sh [(10, h10), (15, h15), (16, h16), (17, h17), (18, h18), (19, h19)] []).iso 16 [imgP l m s] = some (.tup [imgP (opt l) m s, .int .i64 0]) := by
        have := e16 ⟨l, m, s⟩ hs
        rw [he, h0] at this
        exact this
      have c17 : (tab X.sh [(10, h10), (15, h15), (16, h16), (17, h17), (18, h18), (19, h19)] []).iso 17 [code l] = some (code (opt l)) := e17 l ⟨hd, hw, hn⟩
      have c18 : (tab X.sh [(10, h10), (15, h15), (16, h16), (17, h17), (18, h18), (19, h19)] []).iso 18 [code (opt l), code (opt l)] = some (.bool true) := by
        have := e18 (opt l, opt l) (by show (opt l).length ≤ _; omega)
        rw [decide_eq_true rfl] at this
        exact this
      have er : rmN ⟨l, m, s⟩ = (l.length : Int) - ((opt l).length : Int) := if_pos h0
      have c19 : (tab X.sh [(10, h10), (15, h15), (16, h16), (17, h17), (18, h18), (19, h19)] []).iso 19 [imgP l m s] = some (.int .i64 ((l.length : Int) - ((opt l).length : Int))) := by
        have := e19 ⟨l, m, s⟩ hs
        rw [er] at this
        exact this
      have hwr : IntKind.i64.wrap (((List.map Ins.pv l).length : Int) - ((List.map Ins.pv (opt l)).length : Int)) = (l.length : Int) - ((opt l).length : Int) := by
        rw [List.length_map, List.length_map]; exact w64 (by omega) (by omega)
      refine wok env (tab_orc hT tn') fd4 (t4 h10 h15 h16 h17 h18 h19 l (opt l) m s true ((l.length : Int) - ((opt l).length : Int))) ?_
      simp only [Holds]
      refine ⟨pcallv_iso rfl rfl c10, fun _ => ⟨pcallv_iso rfl rfl c15, pcallv_iso rfl rfl c16, pcallv_iso rfl rfl c17, pcallD_iso rfl rfl c18, fun _ => ⟨fun _ => ⟨pcallD_iso rfl rfl c19, fun _ => fin _, fun h => absurd h ?_⟩, fun h => absurd h (by simp)⟩, fun h => absurd h (by simp)⟩, fun h => absurd h (by decide)⟩
      rw [hwr]; simp
end Go.Proofs.YtkfmhmkeikhdbaaDoor
