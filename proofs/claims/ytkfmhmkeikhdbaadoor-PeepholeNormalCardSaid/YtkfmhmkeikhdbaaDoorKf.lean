/- Optimize. -/
import Derived.Test.YtkfmhmkeikhdbaaDoorKe
namespace Go.Proofs.YtkfmhmkeikhdbaaDoor
open Go.Proofs.YtkfmhmkeikhdbaaDoor.Pv Go.RowKit
set_option maxRecDepth 100000
set_option maxHeartbeats 4000000
set_option linter.unusedSimpArgs false
set_option linter.unusedVariables false
theorem fz_tup {d : Nat} {hp hp' : List Pv.Box} {cs l : List PV} (h : fzL (fz d) hp cs = some (l, hp')) : fz (d + 1) hp (.tup cs) = some (.tup l, hp') := by simp only [fz, h]
theorem fz_agg {d : Nat} {hp hp' : List Pv.Box} {cs l : List PV} (h : fzL (fz d) hp cs = some (l, hp')) : fz (d + 1) hp (.agg cs) = some (.agg l, hp') := by simp only [fz, h]
theorem fzL_cons {f : List Pv.Box → PV → Option (PV × List Pv.Box)} {hp hp1 hp2 : List Pv.Box} {c c' : PV} {cs cs' : List PV} (h : f hp c = some (c', hp1)) (k : fzL f hp1 cs = some (cs', hp2)) : fzL f hp (c :: cs) = some (c' :: cs', hp2) := by simp only [fzL, h, k]
theorem fz_many {d : Nat} {hp : List Pv.Box} {id : Nat} {l : List Ins} (hb : hp[id]? = some ⟨5, l.flatMap Ins.cs, 0⟩) : fz (d + 2) hp (.sl id 5 0 l.length) = some (.lst 5 (l.map Ins.pv), hp.set id ⟨5, l.flatMap Ins.cs, 1⟩) := by
  have hs : ∀ a : Ins, a.cs.length = 5 := fun _ => rfl
  rw [show d + 2 = (d + 1) + 1 from rfl, fz_sl hb (by decide) (by rw [flatMap_len hs]; exact Nat.le_refl _) (fun c hc => by
    obtain ⟨x, _, hx⟩ := List.mem_flatMap.1 hc
    simp only [Ins.cs, List.mem_cons, List.not_mem_nil, or_false] at hx
    rcases hx with rfl | rfl | rfl | rfl | rfl <;> rfl), chunk_map (pv := Ins.pv) hs (fun _ => rfl)]
/-- a list of an image's fields -/
structure Im where
  l : List Ins
  m : Int
  s : Int
def Im.pv (x : Im) : PV := imgP x.l x.m x.s
def Im.ce (x : Im) : Int := ckE x.l x.m x.s
def Im.op (x : Im) : Im := if ckE x.l x.m x.s = 0 then ⟨opt x.l, x.m, x.s⟩ else ⟨[], 0, 0⟩
theorem imgP_inj {l l' : List Ins} {m s m' s' : Int} (h : imgP l m s = imgP l' m' s') : l = l' ∧ m = m' ∧ s = s' := by
  unfold imgP at h
  simp only [PV.agg.injEq, List.cons.injEq, PV.lst.injEq, PV.int.injEq, true_and, and_true] at h
  exact ⟨pv_inj h.1, h.2.1, h.2.2⟩
theorem Im.pv_inj {x y : Im} (h : x.pv = y.pv) : x = y := by
  obtain ⟨a, b, c⟩ := x; obtain ⟨a', b', c'⟩ := y
  obtain ⟨rfl, rfl, rfl⟩ := imgP_inj h
  rfl
def Sm (x : Im) : Prop := WF x.l ∧ x.l.length ≤ 300
theorem ok16 (x : Im) (hx : Sm x) : Ok Tryd.prog X.G 16 [x.pv] (.tup [x.op.pv, .int .i64 x.ce]) := by
  obtain ⟨l, m, s⟩ := x
  obtain ⟨hw, hn⟩ : WF l ∧ l.length ≤ 300 := hx
  obtain ⟨h29, e29, o29⟩ := ent_ex Sm (fun x : Im => ([x.pv], PV.tup [.int .i64 (ckI x.l x.m x.s), .int .i64 x.ce])) (fun a b h => by
    simp only [List.cons.injEq, and_true] at h; rw [Im.pv_inj h])
  obtain ⟨h36, e36, o36⟩ := ent_ex (fun l : List Ins => WF l ∧ l.length ≤ 1000000) (fun l => ([code l], .lst 1 ((kps l l.length).map ni))) (fun a b h => by
    simp only [List.cons.injEq, and_true, code, PV.lst.injEq, true_and] at h; rw [pv_inj h])
  obtain ⟨h27, e27, o27⟩ := ent_ex By (fun x : Ins => ([x.pv], PV.tup [.int .i64 (tgt x), .bool (tb x.k)])) (fun a b h => by
    simp only [List.cons.injEq, and_true] at h; rw [Ins.pv_inj h])
  obtain ⟨h28, e28, o28⟩ := ent_ex (fun p : Ins × Int => By p.1) (fun p => ([p.1.pv, .int .i64 p.2], (rtI p.1 p.2).pv)) (fun a b h => by
    simp only [List.cons.injEq, and_true, PV.int.injEq, true_and] at h; rw [Ins.pv_inj h.1, h.2])
  have hT : TabOk Tryd.prog X.G [(29, h29), (36, h36), (27, h27), (28, h28)] :=
    tk (fun l r e => by obtain ⟨a, ha, rfl, rfl⟩ := o29 l r e; exact ok29 a.l a.m a.s ha.1 ha.2) (tk (fun l r e => by obtain ⟨a, ha, rfl, rfl⟩ := o36 l r e; exact ok36 a ha.1 ha.2) (tk (fun l r e => by obtain ⟨a, ha, rfl, rfl⟩ := o27 l r e; exact ok27 a ha) (tk (fun l r e => by obtain ⟨a, ha, rfl, rfl⟩ := o28 l r e; exact ok28 a.1 a.2 ha) tn)))
  have c29 : (tab X.sh [(29, h29), (36, h36), (27, h27), (28, h28)] []).iso 29 [imgP l m s] = some (.tup [.int .i64 (ckI l m s), .int .i64 (ckE l m s)]) := e29 ⟨l, m, s⟩ ⟨hw, hn⟩
  have c36 : (tab X.sh [(29, h29), (36, h36), (27, h27), (28, h28)] []).iso 36 [code l] = some (.lst 1 ((kps l l.length).map ni)) := e36 l ⟨hw, by omega⟩
  refine wok env (tab_orc hT tn') fd16 (t16 h29 h36 h27 h28 l (opt l) (kps l l.length) (ixs (kps l l.length) l.length (kps l l.length).length) m s (ckI l m s) (ckE l m s)) ?_
  simp only [Holds, Pv.Next]
  refine ⟨pcallv_iso rfl rfl c29, fun h => ?_, fun h => ?_⟩
  · have hne : ¬ ckE l m s = 0 := by simpa using h
    have e : (⟨l, m, s⟩ : Im).op = ⟨[], 0, 0⟩ := by unfold Im.op; exact if_neg hne
    rw [e]
    exact ⟨_, _, rfl, Sub.tup (.cons (Sub.agg (.cons (Sub.nils 5) (SubL.refl _))) (SubL.refl _))⟩
  · have h0 : ckE l m s = 0 := by simpa using h
    have e : (⟨l, m, s⟩ : Im).op = ⟨opt l, m, s⟩ := by unfold Im.op; exact if_pos h0
    have hd : Wd l := (wd_ck.1 h0).2
    have hkl := kps_len l l.length
    have hol : (opt l).length = (kps l l.length).length := by
      have := congrArg List.length (kps_red l)
      rw [List.length_map] at this
      rw [this]; exact outp_len _
    have k1 : pmakeS Tryd.prog 2 39 (.int .i64 ((List.map Ins.pv l).length : Int)) (.int .i64 ((List.map Ins.pv l).length : Int)) = some (.sl 2 1 0 l.length, ⟨1, List.map I (List.replicate l.length 0), 0⟩) := by
      rw [List.length_map, pmakeS_eq (T := 39) (E := 3) (n := 1) (z := [.int .i64 0]) Tryd.underlying39 sz3 z3 rfl (by decide) (bytes_ok by3 (by omega)) (by omega)]
      have : rep l.length [PV.int .i64 0] = List.map I (List.replicate l.length 0) := by
        rw [show ([PV.int .i64 0] : List PV) = (fun a => [I a]) (0 : Int) from rfl, rep_map (fun a => [I a]), List.map_eq_flatMap]
      rw [this]
    have k2 : pmakeS Tryd.prog 3 28 (.int .i64 ((List.map ni (kps l l.length)).length : Int)) (.int .i64 ((List.map ni (kps l l.length)).length : Int)) = some (.sl 3 5 0 (kps l l.length).length, ⟨5, List.flatMap Ins.cs (List.replicate (kps l l.length).length ⟨0, 0, 0, 0, 0⟩), 0⟩) := by
      rw [List.length_map, pmakeS_eq (T := 28) (E := 23) (n := 5) (z := Ins.cs ⟨0, 0, 0, 0, 0⟩) Tryd.underlying28 sz23 z23 rfl (by decide) (bytes_ok by23 (by omega)) (by omega), rep_map]
    have hix : (ixs (kps l l.length) l.length (kps l l.length).length).length = l.length := ixs_len _ _ _
    have lA := lpA l m s h29 h36 h27 h28 hT hn (kps l l.length) (fun p hp => kps_lt l l.length p hp) hkl (kps l l.length).length 0 (by omega)
    have lB := lpB16 l m s h29 h36 h27 h28 hT hw hn (kps l l.length) (ixs (kps l l.length) l.length (kps l l.length).length) (opt l) hix hol hkl (fun x hx => e27 x hx) (fun x j hx => e28 (x, j) hx) (fun i p hi => by
      have hpl := kps_lt l l.length p (List.mem_of_getElem? hi)
      have hx : l[p]? = some l[p] := List.getElem?_eq_getElem hpl
      obtain ⟨q1, q2⟩ := opt_at hd hw (by omega) hi hx
      exact ⟨_, _, hx, q1, q2⟩) (kps l l.length).length 0 (by omega)
    rw [fil_zero, hol] at lB
    refine ⟨pcallv_iso rfl rfl c36, congrArg (Option.map fun x => (x.1, _ ++ [x.2])) k1, ⟨trivial, trivial, ⟨VW.int rfl, VW.sl rfl rfl rfl rfl, VW.lst rfl rfl, VW.ptr rfl rfl, VW.ptr rfl rfl, VW.lst rfl rfl, VW.int (by rw [List.length_map]), trivial⟩, ⟨BW.cells (.cons (VW.lst rfl rfl) (.cons (VW.int rfl) (.cons (VW.int rfl) .nil))), BW.flat rfl nb_z, BW.flat rfl (fun c hc => nb_I hc), trivial⟩⟩, lA, congrArg (Option.map fun x => (x.1, _ ++ [x.2])) k2,
      ⟨trivial, trivial, ⟨VW.int rfl, VW.sl rfl rfl rfl rfl, VW.sl rfl rfl rfl rfl, VW.ptr rfl rfl, VW.lst rfl rfl, VW.ptr rfl rfl, VW.int (by rw [List.length_map]), trivial⟩, ⟨BW.cells (.cons (VW.lst rfl rfl) (.cons (VW.int rfl) (.cons (VW.int rfl) .nil))), BW.flat rfl nb_z, BW.flat rfl (fun c hc => nb_I hc), BW.flat rfl (fun c hc => nb_cs hc), trivial⟩⟩, lB, ?_⟩
    rw [e]
    refine ⟨_, _, fz_tup (fzL_cons (fz_agg (fzL_cons (by rw [← hol]; exact fz_many (d := 2) rfl) (fzL_cons rfl (fzL_cons rfl rfl)))) (fzL_cons rfl rfl)), ?_⟩
    rw [show (⟨l, m, s⟩ : Im).ce = 0 from h0]
    exact Sub.refl _
end Go.Proofs.YtkfmhmkeikhdbaaDoor
