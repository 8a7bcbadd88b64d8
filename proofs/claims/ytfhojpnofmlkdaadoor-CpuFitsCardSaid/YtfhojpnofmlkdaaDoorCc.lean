/- Whether a machine fits. -/
import Derived.Test.YtfhojpnofmlkdaaDoorCb
namespace Go.Proofs.YtfhojpnofmlkdaaDoor
open Go.Proofs.YtfhojpnofmlkdaaDoor.Pv Go.RowKit
set_option maxRecDepth 100000
set_option maxHeartbeats 4000000
set_option linter.unusedSimpArgs false
set_option linter.unusedVariables false
set_option maxHeartbeats 2000000
theorem bw_mbx {m : Nat → Option Nat} {hp : List Pv.Box} {x : Mc} : BW m hp (mbx x) (mbx x) := by
  unfold mbx
  refine BW.flat rfl (fun c hc => ?_)
  simp only [Mc.cs, List.mem_cons, List.not_mem_nil, or_false] at hc
  rcases hc with rfl | rfl | rfl | rfl | rfl | rfl | rfl | rfl | rfl | rfl | rfl | rfl | rfl | rfl | rfl | rfl | rfl | rfl | rfl | rfl | rfl | rfl | rfl | rfl | rfl <;> first | exact NB.int _ _ | exact NB.lst _ _
theorem bw_img {m : Nat → Option Nat} {hp : List Pv.Box} {l : List PV} {a b : Int} : BW m hp ⟨3, [.lst 5 l, .int .i64 a, .int .i64 b], 0⟩ ⟨3, [.lst 5 l, .int .i64 a, .int .i64 b], 0⟩ := by
  refine BW.flat rfl (fun c hc => ?_)
  simp only [List.mem_cons, List.not_mem_nil, or_false] at hc
  rcases hc with rfl | rfl | rfl <;> first | exact NB.int _ _ | exact NB.lst _ _
theorem fit_1 {l : List Ins} {m s : Int} {x : Mc} (h : ¬ ((x.dir = 1 ∨ x.dir = -1) ∧ 0 ≤ x.pc ∧ x.pc ≤ l.length ∧ (x.m.length : Int) = m ∧ (x.s.length : Int) = s ∧ 0 < x.s.length)) : false = fitM l m s x := by unfold fitM; rw [decide_eq_false h]; rfl
theorem fit_2 {l : List Ins} {m s : Int} {x : Mc} {j : Nat} (hj : j < (x.s.drop 1).length) (h : decide (((x.s.drop 1).getD j default).length ≤ 1000) = false) : false = fitM l m s x := by
  have : ((x.s.drop 1).all fun c => decide (c.length ≤ 1000)) = false := by
    rw [List.all_eq_false]
    refine ⟨_, List.getElem_mem hj, ?_⟩
    rw [List.getD_eq_getElem?_getD, List.getElem?_eq_getElem hj] at h
    simpa using h
  unfold fitM; rw [this]; simp
theorem fit_3 {l : List Ins} {m s : Int} {x : Mc} {j : Nat} (hj : j < x.c.length) (h : decide (0 ≤ (x.c.getD j default).site ∧ (x.c.getD j default).site < l.length) = false) : false = fitM l m s x := by
  have : (x.c.all fun a => decide (0 ≤ a.site ∧ a.site < l.length)) = false := by
    rw [List.all_eq_false]
    refine ⟨_, List.getElem_mem hj, ?_⟩
    rw [List.getD_eq_getElem?_getD, List.getElem?_eq_getElem hj] at h
    simp only [Option.getD_some] at h
    rw [h]; decide
  unfold fitM; rw [this]; simp
theorem fit_4 {l : List Ins} {m s : Int} {x : Mc} (h : (x.dir = 1 ∨ x.dir = -1) ∧ 0 ≤ x.pc ∧ x.pc ≤ l.length ∧ (x.m.length : Int) = m ∧ (x.s.length : Int) = s ∧ 0 < x.s.length) (hs : ∀ j, j < (x.s.drop 1).length → decide (((x.s.drop 1).getD j default).length ≤ 1000) = true) (hc : ∀ j, j < x.c.length → decide (0 ≤ (x.c.getD j default).site ∧ (x.c.getD j default).site < l.length) = true) :
    decide (x.c.length ≤ 100 ∧ x.i.length ≤ 4096 ∧ x.o.length ≤ 4096 ∧ 0 ≤ x.fp ∧ x.fp ≤ m ∧ 0 ≤ x.sb ∧ x.sb ≤ s) = fitM l m s x := by
  have e1 : ((x.s.drop 1).all fun c => decide (c.length ≤ 1000)) = true := by
    rw [List.all_eq_true]
    intro c hc'
    obtain ⟨j, hj, rfl⟩ := List.getElem_of_mem hc'
    have := hs j hj
    rwa [List.getD_eq_getElem?_getD, List.getElem?_eq_getElem hj] at this
  have e2 : (x.c.all fun a => decide (0 ≤ a.site ∧ a.site < l.length)) = true := by
    rw [List.all_eq_true]
    intro c hc'
    obtain ⟨j, hj, rfl⟩ := List.getElem_of_mem hc'
    have := hc j hj
    rwa [List.getD_eq_getElem?_getD, List.getElem?_eq_getElem hj] at this
  unfold fitM; rw [decide_eq_true h, e1, e2]; simp
theorem sl27 {l : List (List Int)} {hp : List Pv.Box} (h : 0 < l.length) : (pslice Tryd.prog 27 (.lst 1 (l.map nums)) (some (.int .i64 1)) none none).map (fun v => (v, hp)) = some (.lst 1 (List.map nums (l.drop 1)), hp) := by
  unfold pslice PV.un
  rw [Tryd.underlying27]
  simp only [bnd]
  rw [if_pos (by decide)]
  simp only
  rw [if_pos ⟨by rw [List.length_map]; exact h, Nat.le_refl _, sz26⟩, List.take_of_length_le (Nat.le_refl _)]
  simp
def hd37s (l : List Ins) (m : Int) (s : Int) (x : Mc) (i : Nat) : PS := ⟨⟨155, [(72, .int .i64 ((i : Nat) : Int)), (2, .ptr 1 0), (1, .ptr 0 0), (70, stks (x.s.drop 1)), (71, .int .i64 (List.length (x.s.drop 1) : Int))]⟩, [mbx x, ⟨3, [.lst 5 (l.map Ins.pv), J m, J s], 0⟩]⟩
def en37s (l : List Ins) (m : Int) (s : Int) (x : Mc) : PS := ⟨⟨155, [(2, .ptr 1 0), (1, .ptr 0 0)]⟩, [mbx x, ⟨3, [.lst 5 (l.map Ins.pv), J m, J s], 0⟩]⟩
theorem lp37s (iso : Nat → List PV → Option PV) (shr : Nat → List PV → List Pv.Box → Option (PV × List Pv.Box)) (hC : OrcOk Tryd.prog X.G ⟨iso, shr, ownS X.sh, []⟩)  (l : List Ins) (m : Int) (s : Int) (x : Mc) (hs : Sm x) : ((∀ j, j < (x.s.drop 1).length → decide (((x.s.drop 1).getD j default).length ≤ 1000) = true) → LoopOk Tryd.prog X.G 1 (lpB Tryd.f37 4) (hd37s l m s x 0) (.exit 0) (en37s l m s x)) ∧ (∀ j, j < (x.s.drop 1).length → decide (((x.s.drop 1).getD j default).length ≤ 1000) = false → (∀ k, k < j → decide (((x.s.drop 1).getD k default).length ≤ 1000) = true) → LoopOk Tryd.prog X.G 1 (lpB Tryd.f37 4) (hd37s l m s x 0) .ret ⟨⟨155, [(4, .bool false)]⟩, [mbx x]⟩) := by
  refine loop_first (S := hd37s l m s x) (c := fun i => decide (((x.s.drop 1).getD i default).length ≤ 1000)) (e1 := fun i => (.ret, ⟨⟨155, [(4, .bool false)]⟩, [mbx x]⟩)) (e2 := (.exit 0, en37s l m s x)) (fun i hi hc ep sp nx => ?_) (fun i hi hc => ?_) ?_
  · refine round_ok env.mixed hC (by kernel_rfl) (r37s iso shr l m s x i) ?_
    simp only [Holds, Pv.Next]
    have hsz := hs.s
    have hdl : (x.s.drop 1).length = x.s.length - 1 := List.length_drop
    rw [BB_eq] at hsz
    try simp only [decide_eq_true_eq, decide_eq_false_iff_not] at hc
    refine ⟨fun h0 => ?_, fun h0 => ?_⟩
    · have g0 := of_decide_eq_true h0
      try simp only [List.length_map] at g0
      refine ⟨?_, ?_⟩
      · first | (exact px26 (by omega); done) | (exact px27 (by omega); done) | (exact px28 (by omega); done) | (first | omega | contradiction | (simp_all; done); done)
      refine ⟨fun h1 => ?_, fun h1 => ?_⟩
      · have g1 := of_decide_eq_true h1
        try simp only [List.length_map] at g1
        refine ⟨by first | trivial | rfl | exact ⟨rfl, trivial⟩ | simp, ?_⟩
        refine ⟨?_, ?_⟩
        · first | (exact ⟨trivial, (by first | trivial | simp [frzOk]), ⟨(by first | (exact VW.int (wsucc (by omega)); done) | (exact VW.int rfl; done) | (exact VW.lst rfl rfl; done) | (exact VW.cptr rfl; done) | (exact VW.fn .nil; done) | (exact VW.bool rfl; done) | (exact VW.ptr rfl rfl; done) | (exact VW.sl rfl rfl rfl rfl; done) | (exact VW.no rfl; done) | (exact VW.eo rfl; done) | (exact VW.nils; done) | (exact VW.emp; done) | (exact VW.str rfl; done) | (exact VW.int (by first | (simp; done) | fail); done)), trivial⟩, ⟨(by first | (exact bw_mbx; done) | (exact bw_img; done) | (exact BW.tik rfl (by first | (simp; done) | omega); done)), trivial⟩⟩; done) | (first | omega | contradiction | (simp_all; done); done)
        first | (exact ⟨trivial, rfl⟩; done) | (exact ⟨rfl, rfl⟩; done) | (trivial; done) | (rfl; done) | (first | omega | contradiction | (simp_all; done); done)
      · have g1 := of_decide_eq_false h1
        try simp only [List.length_map] at g1
        refine ⟨?_, ?_⟩
        · first | (exact ⟨trivial, (by first | trivial | simp [frzOk]), ⟨(by first | (exact VW.int (wsucc (by omega)); done) | (exact VW.int rfl; done) | (exact VW.lst rfl rfl; done) | (exact VW.cptr rfl; done) | (exact VW.fn .nil; done) | (exact VW.bool rfl; done) | (exact VW.ptr rfl rfl; done) | (exact VW.sl rfl rfl rfl rfl; done) | (exact VW.no rfl; done) | (exact VW.eo rfl; done) | (exact VW.nils; done) | (exact VW.emp; done) | (exact VW.str rfl; done) | (exact VW.int (by first | (simp; done) | fail); done)), (by first | (exact VW.int (wsucc (by omega)); done) | (exact VW.int rfl; done) | (exact VW.lst rfl rfl; done) | (exact VW.cptr rfl; done) | (exact VW.fn .nil; done) | (exact VW.bool rfl; done) | (exact VW.ptr rfl rfl; done) | (exact VW.sl rfl rfl rfl rfl; done) | (exact VW.no rfl; done) | (exact VW.eo rfl; done) | (exact VW.nils; done) | (exact VW.emp; done) | (exact VW.str rfl; done) | (exact VW.int (by first | (simp; done) | fail); done)), (by first | (exact VW.int (wsucc (by omega)); done) | (exact VW.int rfl; done) | (exact VW.lst rfl rfl; done) | (exact VW.cptr rfl; done) | (exact VW.fn .nil; done) | (exact VW.bool rfl; done) | (exact VW.ptr rfl rfl; done) | (exact VW.sl rfl rfl rfl rfl; done) | (exact VW.no rfl; done) | (exact VW.eo rfl; done) | (exact VW.nils; done) | (exact VW.emp; done) | (exact VW.str rfl; done) | (exact VW.int (by first | (simp; done) | fail); done)), (by first | (exact VW.int (wsucc (by omega)); done) | (exact VW.int rfl; done) | (exact VW.lst rfl rfl; done) | (exact VW.cptr rfl; done) | (exact VW.fn .nil; done) | (exact VW.bool rfl; done) | (exact VW.ptr rfl rfl; done) | (exact VW.sl rfl rfl rfl rfl; done) | (exact VW.no rfl; done) | (exact VW.eo rfl; done) | (exact VW.nils; done) | (exact VW.emp; done) | (exact VW.str rfl; done) | (exact VW.int (by first | (simp; done) | fail); done)), (by first | (exact VW.int (wsucc (by omega)); done) | (exact VW.int rfl; done) | (exact VW.lst rfl rfl; done) | (exact VW.cptr rfl; done) | (exact VW.fn .nil; done) | (exact VW.bool rfl; done) | (exact VW.ptr rfl rfl; done) | (exact VW.sl rfl rfl rfl rfl; done) | (exact VW.no rfl; done) | (exact VW.eo rfl; done) | (exact VW.nils; done) | (exact VW.emp; done) | (exact VW.str rfl; done) | (exact VW.int (by first | (simp; done) | fail); done)), trivial⟩, ⟨(by first | (exact bw_mbx; done) | (exact bw_img; done) | (exact BW.tik rfl (by first | (simp; done) | omega); done)), (by first | (exact bw_mbx; done) | (exact bw_img; done) | (exact BW.tik rfl (by first | (simp; done) | omega); done)), trivial⟩⟩; done) | (first | omega | contradiction | (simp_all; done); done)
        first | (exact nx; done) | (first | omega | contradiction | (simp_all; done); done)
    · have g0 := of_decide_eq_false h0
      try simp only [List.length_map] at g0
      refine ⟨by first | trivial | rfl | exact ⟨rfl, trivial⟩ | simp, ?_⟩
      refine ⟨?_, ?_⟩
      · first | (exact ⟨trivial, (by first | trivial | simp [frzOk]), ⟨(by first | (exact VW.int (wsucc (by omega)); done) | (exact VW.int rfl; done) | (exact VW.lst rfl rfl; done) | (exact VW.cptr rfl; done) | (exact VW.fn .nil; done) | (exact VW.bool rfl; done) | (exact VW.ptr rfl rfl; done) | (exact VW.sl rfl rfl rfl rfl; done) | (exact VW.no rfl; done) | (exact VW.eo rfl; done) | (exact VW.nils; done) | (exact VW.emp; done) | (exact VW.str rfl; done) | (exact VW.int (by first | (simp; done) | fail); done)), (by first | (exact VW.int (wsucc (by omega)); done) | (exact VW.int rfl; done) | (exact VW.lst rfl rfl; done) | (exact VW.cptr rfl; done) | (exact VW.fn .nil; done) | (exact VW.bool rfl; done) | (exact VW.ptr rfl rfl; done) | (exact VW.sl rfl rfl rfl rfl; done) | (exact VW.no rfl; done) | (exact VW.eo rfl; done) | (exact VW.nils; done) | (exact VW.emp; done) | (exact VW.str rfl; done) | (exact VW.int (by first | (simp; done) | fail); done)), trivial⟩, ⟨(by first | (exact bw_mbx; done) | (exact bw_img; done) | (exact BW.tik rfl (by first | (simp; done) | omega); done)), (by first | (exact bw_mbx; done) | (exact bw_img; done) | (exact BW.tik rfl (by first | (simp; done) | omega); done)), trivial⟩⟩; done) | (first | omega | contradiction | (simp_all; done); done)
      first | (exact ⟨trivial, rfl⟩; done) | (exact ⟨rfl, rfl⟩; done) | (trivial; done) | (rfl; done) | (first | omega | contradiction | (simp_all; done); done)
  · refine round_ok env.mixed hC (by kernel_rfl) (r37s iso shr l m s x i) ?_
    simp only [Holds, Pv.Next]
    have hsz := hs.s
    have hdl : (x.s.drop 1).length = x.s.length - 1 := List.length_drop
    rw [BB_eq] at hsz
    try simp only [decide_eq_true_eq, decide_eq_false_iff_not] at hc
    refine ⟨fun h0 => ?_, fun h0 => ?_⟩
    · have g0 := of_decide_eq_true h0
      try simp only [List.length_map] at g0
      refine ⟨?_, ?_⟩
      · first | (exact px26 (by omega); done) | (exact px27 (by omega); done) | (exact px28 (by omega); done) | (first | omega | contradiction | (simp_all; done); done)
      refine ⟨fun h1 => ?_, fun h1 => ?_⟩
      · have g1 := of_decide_eq_true h1
        try simp only [List.length_map] at g1
        refine ⟨by first | trivial | rfl | exact ⟨rfl, trivial⟩ | simp, ?_⟩
        refine ⟨?_, ?_⟩
        · first | (exact ⟨trivial, (by first | trivial | simp [frzOk]), ⟨(by first | (exact VW.int (wsucc (by omega)); done) | (exact VW.int rfl; done) | (exact VW.lst rfl rfl; done) | (exact VW.cptr rfl; done) | (exact VW.fn .nil; done) | (exact VW.bool rfl; done) | (exact VW.ptr rfl rfl; done) | (exact VW.sl rfl rfl rfl rfl; done) | (exact VW.no rfl; done) | (exact VW.eo rfl; done) | (exact VW.nils; done) | (exact VW.emp; done) | (exact VW.str rfl; done) | (exact VW.int (by first | (simp; done) | fail); done)), trivial⟩, ⟨(by first | (exact bw_mbx; done) | (exact bw_img; done) | (exact BW.tik rfl (by first | (simp; done) | omega); done)), trivial⟩⟩; done) | (first | omega | contradiction | (simp_all; done); done)
        first | (exact ⟨trivial, rfl⟩; done) | (exact ⟨rfl, rfl⟩; done) | (trivial; done) | (rfl; done) | (first | omega | contradiction | (simp_all; done); done)
      · have g1 := of_decide_eq_false h1
        try simp only [List.length_map] at g1
        refine ⟨?_, ?_⟩
        · first | (exact ⟨trivial, (by first | trivial | simp [frzOk]), ⟨(by first | (exact VW.int (wsucc (by omega)); done) | (exact VW.int rfl; done) | (exact VW.lst rfl rfl; done) | (exact VW.cptr rfl; done) | (exact VW.fn .nil; done) | (exact VW.bool rfl; done) | (exact VW.ptr rfl rfl; done) | (exact VW.sl rfl rfl rfl rfl; done) | (exact VW.no rfl; done) | (exact VW.eo rfl; done) | (exact VW.nils; done) | (exact VW.emp; done) | (exact VW.str rfl; done) | (exact VW.int (by first | (simp; done) | fail); done)), (by first | (exact VW.int (wsucc (by omega)); done) | (exact VW.int rfl; done) | (exact VW.lst rfl rfl; done) | (exact VW.cptr rfl; done) | (exact VW.fn .nil; done) | (exact VW.bool rfl; done) | (exact VW.ptr rfl rfl; done) | (exact VW.sl rfl rfl rfl rfl; done) | (exact VW.no rfl; done) | (exact VW.eo rfl; done) | (exact VW.nils; done) | (exact VW.emp; done) | (exact VW.str rfl; done) | (exact VW.int (by first | (simp; done) | fail); done)), (by first | (exact VW.int (wsucc (by omega)); done) | (exact VW.int rfl; done) | (exact VW.lst rfl rfl; done) | (exact VW.cptr rfl; done) | (exact VW.fn .nil; done) | (exact VW.bool rfl; done) | (exact VW.ptr rfl rfl; done) | (exact VW.sl rfl rfl rfl rfl; done) | (exact VW.no rfl; done) | (exact VW.eo rfl; done) | (exact VW.nils; done) | (exact VW.emp; done) | (exact VW.str rfl; done) | (exact VW.int (by first | (simp; done) | fail); done)), (by first | (exact VW.int (wsucc (by omega)); done) | (exact VW.int rfl; done) | (exact VW.lst rfl rfl; done) | (exact VW.cptr rfl; done) | (exact VW.fn .nil; done) | (exact VW.bool rfl; done) | (exact VW.ptr rfl rfl; done) | (exact VW.sl rfl rfl rfl rfl; done) | (exact VW.no rfl; done) | (exact VW.eo rfl; done) | (exact VW.nils; done) | (exact VW.emp; done) | (exact VW.str rfl; done) | (exact VW.int (by first | (simp; done) | fail); done)), (by first | (exact VW.int (wsucc (by omega)); done) | (exact VW.int rfl; done) | (exact VW.lst rfl rfl; done) | (exact VW.cptr rfl; done) | (exact VW.fn .nil; done) | (exact VW.bool rfl; done) | (exact VW.ptr rfl rfl; done) | (exact VW.sl rfl rfl rfl rfl; done) | (exact VW.no rfl; done) | (exact VW.eo rfl; done) | (exact VW.nils; done) | (exact VW.emp; done) | (exact VW.str rfl; done) | (exact VW.int (by first | (simp; done) | fail); done)), trivial⟩, ⟨(by first | (exact bw_mbx; done) | (exact bw_img; done) | (exact BW.tik rfl (by first | (simp; done) | omega); done)), (by first | (exact bw_mbx; done) | (exact bw_img; done) | (exact BW.tik rfl (by first | (simp; done) | omega); done)), trivial⟩⟩; done) | (first | omega | contradiction | (simp_all; done); done)
        first | (exact nx; done) | (first | omega | contradiction | (simp_all; done); done)
    · have g0 := of_decide_eq_false h0
      try simp only [List.length_map] at g0
      refine ⟨by first | trivial | rfl | exact ⟨rfl, trivial⟩ | simp, ?_⟩
      refine ⟨?_, ?_⟩
      · first | (exact ⟨trivial, (by first | trivial | simp [frzOk]), ⟨(by first | (exact VW.int (wsucc (by omega)); done) | (exact VW.int rfl; done) | (exact VW.lst rfl rfl; done) | (exact VW.cptr rfl; done) | (exact VW.fn .nil; done) | (exact VW.bool rfl; done) | (exact VW.ptr rfl rfl; done) | (exact VW.sl rfl rfl rfl rfl; done) | (exact VW.no rfl; done) | (exact VW.eo rfl; done) | (exact VW.nils; done) | (exact VW.emp; done) | (exact VW.str rfl; done) | (exact VW.int (by first | (simp; done) | fail); done)), (by first | (exact VW.int (wsucc (by omega)); done) | (exact VW.int rfl; done) | (exact VW.lst rfl rfl; done) | (exact VW.cptr rfl; done) | (exact VW.fn .nil; done) | (exact VW.bool rfl; done) | (exact VW.ptr rfl rfl; done) | (exact VW.sl rfl rfl rfl rfl; done) | (exact VW.no rfl; done) | (exact VW.eo rfl; done) | (exact VW.nils; done) | (exact VW.emp; done) | (exact VW.str rfl; done) | (exact VW.int (by first | (simp; done) | fail); done)), trivial⟩, ⟨(by first | (exact bw_mbx; done) | (exact bw_img; done) | (exact BW.tik rfl (by first | (simp; done) | omega); done)), (by first | (exact bw_mbx; done) | (exact bw_img; done) | (exact BW.tik rfl (by first | (simp; done) | omega); done)), trivial⟩⟩; done) | (first | omega | contradiction | (simp_all; done); done)
      first | (exact ⟨trivial, rfl⟩; done) | (exact ⟨rfl, rfl⟩; done) | (trivial; done) | (rfl; done) | (first | omega | contradiction | (simp_all; done); done)
  · refine round_ok env.mixed hC (by kernel_rfl) (r37s iso shr l m s x ((x.s.drop 1).length)) ?_
    simp only [Holds, Pv.Next]
    have hsz := hs.s
    have hdl : (x.s.drop 1).length = x.s.length - 1 := List.length_drop
    rw [BB_eq] at hsz
    refine ⟨fun h0 => ?_, fun h0 => ?_⟩
    · have g0 := of_decide_eq_true h0
      try simp only [List.length_map] at g0
      refine ⟨?_, ?_⟩
      · first | (exact px26 (by omega); done) | (exact px27 (by omega); done) | (exact px28 (by omega); done) | (first | omega | contradiction | (simp_all; done); done)
      refine ⟨fun h1 => ?_, fun h1 => ?_⟩
      · have g1 := of_decide_eq_true h1
        try simp only [List.length_map] at g1
        refine ⟨by first | trivial | rfl | exact ⟨rfl, trivial⟩ | simp, ?_⟩
        refine ⟨?_, ?_⟩
        · first | (exact ⟨trivial, (by first | trivial | simp [frzOk]), ⟨(by first | (exact VW.int (wsucc (by omega)); done) | (exact VW.int rfl; done) | (exact VW.lst rfl rfl; done) | (exact VW.cptr rfl; done) | (exact VW.fn .nil; done) | (exact VW.bool rfl; done) | (exact VW.ptr rfl rfl; done) | (exact VW.sl rfl rfl rfl rfl; done) | (exact VW.no rfl; done) | (exact VW.eo rfl; done) | (exact VW.nils; done) | (exact VW.emp; done) | (exact VW.str rfl; done) | (exact VW.int (by first | (simp; done) | fail); done)), trivial⟩, ⟨(by first | (exact bw_mbx; done) | (exact bw_img; done) | (exact BW.tik rfl (by first | (simp; done) | omega); done)), trivial⟩⟩; done) | (first | omega | contradiction | (simp_all; done); done)
        first | (exact ⟨trivial, rfl⟩; done) | (exact ⟨rfl, rfl⟩; done) | (trivial; done) | (rfl; done) | (first | omega | contradiction | (simp_all; done); done)
      · have g1 := of_decide_eq_false h1
        try simp only [List.length_map] at g1
        refine ⟨?_, ?_⟩
        · first | (exact ⟨trivial, (by first | trivial | simp [frzOk]), ⟨(by first | (exact VW.int (wsucc (by omega)); done) | (exact VW.int rfl; done) | (exact VW.lst rfl rfl; done) | (exact VW.cptr rfl; done) | (exact VW.fn .nil; done) | (exact VW.bool rfl; done) | (exact VW.ptr rfl rfl; done) | (exact VW.sl rfl rfl rfl rfl; done) | (exact VW.no rfl; done) | (exact VW.eo rfl; done) | (exact VW.nils; done) | (exact VW.emp; done) | (exact VW.str rfl; done) | (exact VW.int (by first | (simp; done) | fail); done)), (by first | (exact VW.int (wsucc (by omega)); done) | (exact VW.int rfl; done) | (exact VW.lst rfl rfl; done) | (exact VW.cptr rfl; done) | (exact VW.fn .nil; done) | (exact VW.bool rfl; done) | (exact VW.ptr rfl rfl; done) | (exact VW.sl rfl rfl rfl rfl; done) | (exact VW.no rfl; done) | (exact VW.eo rfl; done) | (exact VW.nils; done) | (exact VW.emp; done) | (exact VW.str rfl; done) | (exact VW.int (by first | (simp; done) | fail); done)), (by first | (exact VW.int (wsucc (by omega)); done) | (exact VW.int rfl; done) | (exact VW.lst rfl rfl; done) | (exact VW.cptr rfl; done) | (exact VW.fn .nil; done) | (exact VW.bool rfl; done) | (exact VW.ptr rfl rfl; done) | (exact VW.sl rfl rfl rfl rfl; done) | (exact VW.no rfl; done) | (exact VW.eo rfl; done) | (exact VW.nils; done) | (exact VW.emp; done) | (exact VW.str rfl; done) | (exact VW.int (by first | (simp; done) | fail); done)), (by first | (exact VW.int (wsucc (by omega)); done) | (exact VW.int rfl; done) | (exact VW.lst rfl rfl; done) | (exact VW.cptr rfl; done) | (exact VW.fn .nil; done) | (exact VW.bool rfl; done) | (exact VW.ptr rfl rfl; done) | (exact VW.sl rfl rfl rfl rfl; done) | (exact VW.no rfl; done) | (exact VW.eo rfl; done) | (exact VW.nils; done) | (exact VW.emp; done) | (exact VW.str rfl; done) | (exact VW.int (by first | (simp; done) | fail); done)), (by first | (exact VW.int (wsucc (by omega)); done) | (exact VW.int rfl; done) | (exact VW.lst rfl rfl; done) | (exact VW.cptr rfl; done) | (exact VW.fn .nil; done) | (exact VW.bool rfl; done) | (exact VW.ptr rfl rfl; done) | (exact VW.sl rfl rfl rfl rfl; done) | (exact VW.no rfl; done) | (exact VW.eo rfl; done) | (exact VW.nils; done) | (exact VW.emp; done) | (exact VW.str rfl; done) | (exact VW.int (by first | (simp; done) | fail); done)), trivial⟩, ⟨(by first | (exact bw_mbx; done) | (exact bw_img; done) | (exact BW.tik rfl (by first | (simp; done) | omega); done)), (by first | (exact bw_mbx; done) | (exact bw_img; done) | (exact BW.tik rfl (by first | (simp; done) | omega); done)), trivial⟩⟩; done) | (first | omega | contradiction | (simp_all; done); done)
        first | (exact nx; done) | (first | omega | contradiction | (simp_all; done); done)
    · have g0 := of_decide_eq_false h0
      try simp only [List.length_map] at g0
      refine ⟨by first | trivial | rfl | exact ⟨rfl, trivial⟩ | simp, ?_⟩
      refine ⟨?_, ?_⟩
      · first | (exact ⟨trivial, (by first | trivial | simp [frzOk]), ⟨(by first | (exact VW.int (wsucc (by omega)); done) | (exact VW.int rfl; done) | (exact VW.lst rfl rfl; done) | (exact VW.cptr rfl; done) | (exact VW.fn .nil; done) | (exact VW.bool rfl; done) | (exact VW.ptr rfl rfl; done) | (exact VW.sl rfl rfl rfl rfl; done) | (exact VW.no rfl; done) | (exact VW.eo rfl; done) | (exact VW.nils; done) | (exact VW.emp; done) | (exact VW.str rfl; done) | (exact VW.int (by first | (simp; done) | fail); done)), (by first | (exact VW.int (wsucc (by omega)); done) | (exact VW.int rfl; done) | (exact VW.lst rfl rfl; done) | (exact VW.cptr rfl; done) | (exact VW.fn .nil; done) | (exact VW.bool rfl; done) | (exact VW.ptr rfl rfl; done) | (exact VW.sl rfl rfl rfl rfl; done) | (exact VW.no rfl; done) | (exact VW.eo rfl; done) | (exact VW.nils; done) | (exact VW.emp; done) | (exact VW.str rfl; done) | (exact VW.int (by first | (simp; done) | fail); done)), trivial⟩, ⟨(by first | (exact bw_mbx; done) | (exact bw_img; done) | (exact BW.tik rfl (by first | (simp; done) | omega); done)), (by first | (exact bw_mbx; done) | (exact bw_img; done) | (exact BW.tik rfl (by first | (simp; done) | omega); done)), trivial⟩⟩; done) | (first | omega | contradiction | (simp_all; done); done)
      first | (exact ⟨trivial, rfl⟩; done) | (exact ⟨rfl, rfl⟩; done) | (trivial; done) | (rfl; done) | (first | omega | contradiction | (simp_all; done); done)
def hd37c (l : List Ins) (m : Int) (s : Int) (x : Mc) (i : Nat) : PS := ⟨⟨155, [(85, .int .i64 ((i : Nat) : Int)), (2, .ptr 1 0), (1, .ptr 0 0), (83, acts x.c), (84, .int .i64 (List.length x.c : Int))]⟩, [mbx x, ⟨3, [.lst 5 (l.map Ins.pv), J m, J s], 0⟩]⟩
def en37c (l : List Ins) (m : Int) (s : Int) (x : Mc) : PS := ⟨⟨155, [(2, .ptr 1 0), (1, .ptr 0 0)]⟩, [mbx x, ⟨3, [.lst 5 (l.map Ins.pv), J m, J s], 0⟩]⟩
theorem lp37c (iso : Nat → List PV → Option PV) (shr : Nat → List PV → List Pv.Box → Option (PV × List Pv.Box)) (hC : OrcOk Tryd.prog X.G ⟨iso, shr, ownS X.sh, []⟩)  (l : List Ins) (m : Int) (s : Int) (x : Mc) (hs : Sm x) : ((∀ j, j < x.c.length → decide (0 ≤ (x.c.getD j default).site ∧ (x.c.getD j default).site < l.length) = true) → LoopOk Tryd.prog X.G 1 (lpB Tryd.f37 10) (hd37c l m s x 0) (.exit 2) (en37c l m s x)) ∧ (∀ j, j < x.c.length → decide (0 ≤ (x.c.getD j default).site ∧ (x.c.getD j default).site < l.length) = false → (∀ k, k < j → decide (0 ≤ (x.c.getD k default).site ∧ (x.c.getD k default).site < l.length) = true) → LoopOk Tryd.prog X.G 1 (lpB Tryd.f37 10) (hd37c l m s x 0) .ret ⟨⟨155, [(4, .bool false)]⟩, [mbx x]⟩) := by
  refine loop_first (S := hd37c l m s x) (c := fun i => decide (0 ≤ (x.c.getD i default).site ∧ (x.c.getD i default).site < l.length)) (e1 := fun i => (.ret, ⟨⟨155, [(4, .bool false)]⟩, [mbx x]⟩)) (e2 := (.exit 2, en37c l m s x)) (fun i hi hc ep sp nx => ?_) (fun i hi hc => ?_) ?_
  · refine round_ok env.mixed hC (by kernel_rfl) (r37c iso shr l m s x i) ?_
    simp only [Holds, Pv.Next]
    have hsz := hs.c
    rw [BB_eq] at hsz
    try simp only [decide_eq_true_eq, decide_eq_false_iff_not] at hc
    refine ⟨fun h0 => ?_, fun h0 => ?_⟩
    · have g0 := of_decide_eq_true h0
      try simp only [List.length_map] at g0
      refine ⟨?_, ?_⟩
      · first | (exact px26 (by omega); done) | (exact px27 (by omega); done) | (exact px28 (by omega); done) | (first | omega | contradiction | (simp_all; done); done)
      refine ⟨fun h1 => ?_, fun h1 => ?_⟩
      · have g1 := of_decide_eq_true h1
        try simp only [List.length_map] at g1
        refine ⟨by first | trivial | rfl | exact ⟨rfl, trivial⟩ | simp, ?_⟩
        refine ⟨?_, ?_⟩
        · first | (exact ⟨trivial, (by first | trivial | simp [frzOk]), ⟨(by first | (exact VW.int (wsucc (by omega)); done) | (exact VW.int rfl; done) | (exact VW.lst rfl rfl; done) | (exact VW.cptr rfl; done) | (exact VW.fn .nil; done) | (exact VW.bool rfl; done) | (exact VW.ptr rfl rfl; done) | (exact VW.sl rfl rfl rfl rfl; done) | (exact VW.no rfl; done) | (exact VW.eo rfl; done) | (exact VW.nils; done) | (exact VW.emp; done) | (exact VW.str rfl; done) | (exact VW.int (by first | (simp; done) | fail); done)), trivial⟩, ⟨(by first | (exact bw_mbx; done) | (exact bw_img; done) | (exact BW.tik rfl (by first | (simp; done) | omega); done)), trivial⟩⟩; done) | (first | omega | contradiction | (simp_all; done); done)
        first | (exact ⟨trivial, rfl⟩; done) | (exact ⟨rfl, rfl⟩; done) | (trivial; done) | (rfl; done) | (first | omega | contradiction | (simp_all; done); done)
      · have g1 := of_decide_eq_false h1
        try simp only [List.length_map] at g1
        refine ⟨fun h2 => ?_, fun h2 => ?_⟩
        · have g2 := of_decide_eq_true h2
          try simp only [List.length_map] at g2
          refine ⟨by first | trivial | rfl | exact ⟨rfl, trivial⟩ | simp, ?_⟩
          refine ⟨?_, ?_⟩
          · first | (exact ⟨trivial, (by first | trivial | simp [frzOk]), ⟨(by first | (exact VW.int (wsucc (by omega)); done) | (exact VW.int rfl; done) | (exact VW.lst rfl rfl; done) | (exact VW.cptr rfl; done) | (exact VW.fn .nil; done) | (exact VW.bool rfl; done) | (exact VW.ptr rfl rfl; done) | (exact VW.sl rfl rfl rfl rfl; done) | (exact VW.no rfl; done) | (exact VW.eo rfl; done) | (exact VW.nils; done) | (exact VW.emp; done) | (exact VW.str rfl; done) | (exact VW.int (by first | (simp; done) | fail); done)), trivial⟩, ⟨(by first | (exact bw_mbx; done) | (exact bw_img; done) | (exact BW.tik rfl (by first | (simp; done) | omega); done)), trivial⟩⟩; done) | (first | omega | contradiction | (simp_all; done); done)
          first | (exact ⟨trivial, rfl⟩; done) | (exact ⟨rfl, rfl⟩; done) | (trivial; done) | (rfl; done) | (first | omega | contradiction | (simp_all; done); done)
        · have g2 := of_decide_eq_false h2
          try simp only [List.length_map] at g2
          refine ⟨?_, ?_⟩
          · first | (exact ⟨trivial, (by first | trivial | simp [frzOk]), ⟨(by first | (exact VW.int (wsucc (by omega)); done) | (exact VW.int rfl; done) | (exact VW.lst rfl rfl; done) | (exact VW.cptr rfl; done) | (exact VW.fn .nil; done) | (exact VW.bool rfl; done) | (exact VW.ptr rfl rfl; done) | (exact VW.sl rfl rfl rfl rfl; done) | (exact VW.no rfl; done) | (exact VW.eo rfl; done) | (exact VW.nils; done) | (exact VW.emp; done) | (exact VW.str rfl; done) | (exact VW.int (by first | (simp; done) | fail); done)), (by first | (exact VW.int (wsucc (by omega)); done) | (exact VW.int rfl; done) | (exact VW.lst rfl rfl; done) | (exact VW.cptr rfl; done) | (exact VW.fn .nil; done) | (exact VW.bool rfl; done) | (exact VW.ptr rfl rfl; done) | (exact VW.sl rfl rfl rfl rfl; done) | (exact VW.no rfl; done) | (exact VW.eo rfl; done) | (exact VW.nils; done) | (exact VW.emp; done) | (exact VW.str rfl; done) | (exact VW.int (by first | (simp; done) | fail); done)), (by first | (exact VW.int (wsucc (by omega)); done) | (exact VW.int rfl; done) | (exact VW.lst rfl rfl; done) | (exact VW.cptr rfl; done) | (exact VW.fn .nil; done) | (exact VW.bool rfl; done) | (exact VW.ptr rfl rfl; done) | (exact VW.sl rfl rfl rfl rfl; done) | (exact VW.no rfl; done) | (exact VW.eo rfl; done) | (exact VW.nils; done) | (exact VW.emp; done) | (exact VW.str rfl; done) | (exact VW.int (by first | (simp; done) | fail); done)), (by first | (exact VW.int (wsucc (by omega)); done) | (exact VW.int rfl; done) | (exact VW.lst rfl rfl; done) | (exact VW.cptr rfl; done) | (exact VW.fn .nil; done) | (exact VW.bool rfl; done) | (exact VW.ptr rfl rfl; done) | (exact VW.sl rfl rfl rfl rfl; done) | (exact VW.no rfl; done) | (exact VW.eo rfl; done) | (exact VW.nils; done) | (exact VW.emp; done) | (exact VW.str rfl; done) | (exact VW.int (by first | (simp; done) | fail); done)), (by first | (exact VW.int (wsucc (by omega)); done) | (exact VW.int rfl; done) | (exact VW.lst rfl rfl; done) | (exact VW.cptr rfl; done) | (exact VW.fn .nil; done) | (exact VW.bool rfl; done) | (exact VW.ptr rfl rfl; done) | (exact VW.sl rfl rfl rfl rfl; done) | (exact VW.no rfl; done) | (exact VW.eo rfl; done) | (exact VW.nils; done) | (exact VW.emp; done) | (exact VW.str rfl; done) | (exact VW.int (by first | (simp; done) | fail); done)), trivial⟩, ⟨(by first | (exact bw_mbx; done) | (exact bw_img; done) | (exact BW.tik rfl (by first | (simp; done) | omega); done)), (by first | (exact bw_mbx; done) | (exact bw_img; done) | (exact BW.tik rfl (by first | (simp; done) | omega); done)), trivial⟩⟩; done) | (first | omega | contradiction | (simp_all; done); done)
          first | (exact nx; done) | (first | omega | contradiction | (simp_all; done); done)
    · have g0 := of_decide_eq_false h0
      try simp only [List.length_map] at g0
      refine ⟨by first | trivial | rfl | exact ⟨rfl, trivial⟩ | simp, ?_⟩
      refine ⟨?_, ?_⟩
      · first | (exact ⟨trivial, (by first | trivial | simp [frzOk]), ⟨(by first | (exact VW.int (wsucc (by omega)); done) | (exact VW.int rfl; done) | (exact VW.lst rfl rfl; done) | (exact VW.cptr rfl; done) | (exact VW.fn .nil; done) | (exact VW.bool rfl; done) | (exact VW.ptr rfl rfl; done) | (exact VW.sl rfl rfl rfl rfl; done) | (exact VW.no rfl; done) | (exact VW.eo rfl; done) | (exact VW.nils; done) | (exact VW.emp; done) | (exact VW.str rfl; done) | (exact VW.int (by first | (simp; done) | fail); done)), (by first | (exact VW.int (wsucc (by omega)); done) | (exact VW.int rfl; done) | (exact VW.lst rfl rfl; done) | (exact VW.cptr rfl; done) | (exact VW.fn .nil; done) | (exact VW.bool rfl; done) | (exact VW.ptr rfl rfl; done) | (exact VW.sl rfl rfl rfl rfl; done) | (exact VW.no rfl; done) | (exact VW.eo rfl; done) | (exact VW.nils; done) | (exact VW.emp; done) | (exact VW.str rfl; done) | (exact VW.int (by first | (simp; done) | fail); done)), trivial⟩, ⟨(by first | (exact bw_mbx; done) | (exact bw_img; done) | (exact BW.tik rfl (by first | (simp; done) | omega); done)), (by first | (exact bw_mbx; done) | (exact bw_img; done) | (exact BW.tik rfl (by first | (simp; done) | omega); done)), trivial⟩⟩; done) | (first | omega | contradiction | (simp_all; done); done)
      first | (exact ⟨trivial, rfl⟩; done) | (exact ⟨rfl, rfl⟩; done) | (trivial; done) | (rfl; done) | (first | omega | contradiction | (simp_all; done); done)
  · refine round_ok env.mixed hC (by kernel_rfl) (r37c iso shr l m s x i) ?_
    simp only [Holds, Pv.Next]
    have hsz := hs.c
    rw [BB_eq] at hsz
    try simp only [decide_eq_true_eq, decide_eq_false_iff_not] at hc
    refine ⟨fun h0 => ?_, fun h0 => ?_⟩
    · have g0 := of_decide_eq_true h0
      try simp only [List.length_map] at g0
      refine ⟨?_, ?_⟩
      · first | (exact px26 (by omega); done) | (exact px27 (by omega); done) | (exact px28 (by omega); done) | (first | omega | contradiction | (simp_all; done); done)
      refine ⟨fun h1 => ?_, fun h1 => ?_⟩
      · have g1 := of_decide_eq_true h1
        try simp only [List.length_map] at g1
        refine ⟨by first | trivial | rfl | exact ⟨rfl, trivial⟩ | simp, ?_⟩
        refine ⟨?_, ?_⟩
        · first | (exact ⟨trivial, (by first | trivial | simp [frzOk]), ⟨(by first | (exact VW.int (wsucc (by omega)); done) | (exact VW.int rfl; done) | (exact VW.lst rfl rfl; done) | (exact VW.cptr rfl; done) | (exact VW.fn .nil; done) | (exact VW.bool rfl; done) | (exact VW.ptr rfl rfl; done) | (exact VW.sl rfl rfl rfl rfl; done) | (exact VW.no rfl; done) | (exact VW.eo rfl; done) | (exact VW.nils; done) | (exact VW.emp; done) | (exact VW.str rfl; done) | (exact VW.int (by first | (simp; done) | fail); done)), trivial⟩, ⟨(by first | (exact bw_mbx; done) | (exact bw_img; done) | (exact BW.tik rfl (by first | (simp; done) | omega); done)), trivial⟩⟩; done) | (first | omega | contradiction | (simp_all; done); done)
        first | (exact ⟨trivial, rfl⟩; done) | (exact ⟨rfl, rfl⟩; done) | (trivial; done) | (rfl; done) | (first | omega | contradiction | (simp_all; done); done)
      · have g1 := of_decide_eq_false h1
        try simp only [List.length_map] at g1
        refine ⟨fun h2 => ?_, fun h2 => ?_⟩
        · have g2 := of_decide_eq_true h2
          try simp only [List.length_map] at g2
          refine ⟨by first | trivial | rfl | exact ⟨rfl, trivial⟩ | simp, ?_⟩
          refine ⟨?_, ?_⟩
          · first | (exact ⟨trivial, (by first | trivial | simp [frzOk]), ⟨(by first | (exact VW.int (wsucc (by omega)); done) | (exact VW.int rfl; done) | (exact VW.lst rfl rfl; done) | (exact VW.cptr rfl; done) | (exact VW.fn .nil; done) | (exact VW.bool rfl; done) | (exact VW.ptr rfl rfl; done) | (exact VW.sl rfl rfl rfl rfl; done) | (exact VW.no rfl; done) | (exact VW.eo rfl; done) | (exact VW.nils; done) | (exact VW.emp; done) | (exact VW.str rfl; done) | (exact VW.int (by first | (simp; done) | fail); done)), trivial⟩, ⟨(by first | (exact bw_mbx; done) | (exact bw_img; done) | (exact BW.tik rfl (by first | (simp; done) | omega); done)), trivial⟩⟩; done) | (first | omega | contradiction | (simp_all; done); done)
          first | (exact ⟨trivial, rfl⟩; done) | (exact ⟨rfl, rfl⟩; done) | (trivial; done) | (rfl; done) | (first | omega | contradiction | (simp_all; done); done)
        · have g2 := of_decide_eq_false h2
          try simp only [List.length_map] at g2
          refine ⟨?_, ?_⟩
          · first | (exact ⟨trivial, (by first | trivial | simp [frzOk]), ⟨(by first | (exact VW.int (wsucc (by omega)); done) | (exact VW.int rfl; done) | (exact VW.lst rfl rfl; done) | (exact VW.cptr rfl; done) | (exact VW.fn .nil; done) | (exact VW.bool rfl; done) | (exact VW.ptr rfl rfl; done) | (exact VW.sl rfl rfl rfl rfl; done) | (exact VW.no rfl; done) | (exact VW.eo rfl; done) | (exact VW.nils; done) | (exact VW.emp; done) | (exact VW.str rfl; done) | (exact VW.int (by first | (simp; done) | fail); done)), (by first | (exact VW.int (wsucc (by omega)); done) | (exact VW.int rfl; done) | (exact VW.lst rfl rfl; done) | (exact VW.cptr rfl; done) | (exact VW.fn .nil; done) | (exact VW.bool rfl; done) | (exact VW.ptr rfl rfl; done) | (exact VW.sl rfl rfl rfl rfl; done) | (exact VW.no rfl; done) | (exact VW.eo rfl; done) | (exact VW.nils; done) | (exact VW.emp; done) | (exact VW.str rfl; done) | (exact VW.int (by first | (simp; done) | fail); done)), (by first | (exact VW.int (wsucc (by omega)); done) | (exact VW.int rfl; done) | (exact VW.lst rfl rfl; done) | (exact VW.cptr rfl; done) | (exact VW.fn .nil; done) | (exact VW.bool rfl; done) | (exact VW.ptr rfl rfl; done) | (exact VW.sl rfl rfl rfl rfl; done) | (exact VW.no rfl; done) | (exact VW.eo rfl; done) | (exact VW.nils; done) | (exact VW.emp; done) | (exact VW.str rfl; done) | (exact VW.int (by first | (simp; done) | fail); done)), (by first | (exact VW.int (wsucc (by omega)); done) | (exact VW.int rfl; done) | (exact VW.lst rfl rfl; done) | (exact VW.cptr rfl; done) | (exact VW.fn .nil; done) | (exact VW.bool rfl; done) | (exact VW.ptr rfl rfl; done) | (exact VW.sl rfl rfl rfl rfl; done) | (exact VW.no rfl; done) | (exact VW.eo rfl; done) | (exact VW.nils; done) | (exact VW.emp; done) | (exact VW.str rfl; done) | (exact VW.int (by first | (simp; done) | fail); done)), (by first | (exact VW.int (wsucc (by omega)); done) | (exact VW.int rfl; done) | (exact VW.lst rfl rfl; done) | (exact VW.cptr rfl; done) | (exact VW.fn .nil; done) | (exact VW.bool rfl; done) | (exact VW.ptr rfl rfl; done) | (exact VW.sl rfl rfl rfl rfl; done) | (exact VW.no rfl; done) | (exact VW.eo rfl; done) | (exact VW.nils; done) | (exact VW.emp; done) | (exact VW.str rfl; done) | (exact VW.int (by first | (simp; done) | fail); done)), trivial⟩, ⟨(by first | (exact bw_mbx; done) | (exact bw_img; done) | (exact BW.tik rfl (by first | (simp; done) | omega); done)), (by first | (exact bw_mbx; done) | (exact bw_img; done) | (exact BW.tik rfl (by first | (simp; done) | omega); done)), trivial⟩⟩; done) | (first | omega | contradiction | (simp_all; done); done)
          first | (exact nx; done) | (first | omega | contradiction | (simp_all; done); done)
    · have g0 := of_decide_eq_false h0
      try simp only [List.length_map] at g0
      refine ⟨by first | trivial | rfl | exact ⟨rfl, trivial⟩ | simp, ?_⟩
      refine ⟨?_, ?_⟩
      · first | (exact ⟨trivial, (by first | trivial | simp [frzOk]), ⟨(by first | (exact VW.int (wsucc (by omega)); done) | (exact VW.int rfl; done) | (exact VW.lst rfl rfl; done) | (exact VW.cptr rfl; done) | (exact VW.fn .nil; done) | (exact VW.bool rfl; done) | (exact VW.ptr rfl rfl; done) | (exact VW.sl rfl rfl rfl rfl; done) | (exact VW.no rfl; done) | (exact VW.eo rfl; done) | (exact VW.nils; done) | (exact VW.emp; done) | (exact VW.str rfl; done) | (exact VW.int (by first | (simp; done) | fail); done)), (by first | (exact VW.int (wsucc (by omega)); done) | (exact VW.int rfl; done) | (exact VW.lst rfl rfl; done) | (exact VW.cptr rfl; done) | (exact VW.fn .nil; done) | (exact VW.bool rfl; done) | (exact VW.ptr rfl rfl; done) | (exact VW.sl rfl rfl rfl rfl; done) | (exact VW.no rfl; done) | (exact VW.eo rfl; done) | (exact VW.nils; done) | (exact VW.emp; done) | (exact VW.str rfl; done) | (exact VW.int (by first | (simp; done) | fail); done)), trivial⟩, ⟨(by first | (exact bw_mbx; done) | (exact bw_img; done) | (exact BW.tik rfl (by first | (simp; done) | omega); done)), (by first | (exact bw_mbx; done) | (exact bw_img; done) | (exact BW.tik rfl (by first | (simp; done) | omega); done)), trivial⟩⟩; done) | (first | omega | contradiction | (simp_all; done); done)
      first | (exact ⟨trivial, rfl⟩; done) | (exact ⟨rfl, rfl⟩; done) | (trivial; done) | (rfl; done) | (first | omega | contradiction | (simp_all; done); done)
  · refine round_ok env.mixed hC (by kernel_rfl) (r37c iso shr l m s x (x.c.length)) ?_
    simp only [Holds, Pv.Next]
    have hsz := hs.c
    rw [BB_eq] at hsz
    refine ⟨fun h0 => ?_, fun h0 => ?_⟩
    · have g0 := of_decide_eq_true h0
      try simp only [List.length_map] at g0
      refine ⟨?_, ?_⟩
      · first | (exact px26 (by omega); done) | (exact px27 (by omega); done) | (exact px28 (by omega); done) | (first | omega | contradiction | (simp_all; done); done)
      refine ⟨fun h1 => ?_, fun h1 => ?_⟩
      · have g1 := of_decide_eq_true h1
        try simp only [List.length_map] at g1
        refine ⟨by first | trivial | rfl | exact ⟨rfl, trivial⟩ | simp, ?_⟩
        refine ⟨?_, ?_⟩
        · first | (exact ⟨trivial, (by first | trivial | simp [frzOk]), ⟨(by first | (exact VW.int (wsucc (by omega)); done) | (exact VW.int rfl; done) | (exact VW.lst rfl rfl; done) | (exact VW.cptr rfl; done) | (exact VW.fn .nil; done) | (exact VW.bool rfl; done) | (exact VW.ptr rfl rfl; done) | (exact VW.sl rfl rfl rfl rfl; done) | (exact VW.no rfl; done) | (exact VW.eo rfl; done) | (exact VW.nils; done) | (exact VW.emp; done) | (exact VW.str rfl; done) | (exact VW.int (by first | (simp; done) | fail); done)), trivial⟩, ⟨(by first | (exact bw_mbx; done) | (exact bw_img; done) | (exact BW.tik rfl (by first | (simp; done) | omega); done)), trivial⟩⟩; done) | (first | omega | contradiction | (simp_all; done); done)
        first | (exact ⟨trivial, rfl⟩; done) | (exact ⟨rfl, rfl⟩; done) | (trivial; done) | (rfl; done) | (first | omega | contradiction | (simp_all; done); done)
      · have g1 := of_decide_eq_false h1
        try simp only [List.length_map] at g1
        refine ⟨fun h2 => ?_, fun h2 => ?_⟩
        · have g2 := of_decide_eq_true h2
          try simp only [List.length_map] at g2
          refine ⟨by first | trivial | rfl | exact ⟨rfl, trivial⟩ | simp, ?_⟩
          refine ⟨?_, ?_⟩
          · first | (exact ⟨trivial, (by first | trivial | simp [frzOk]), ⟨(by first | (exact VW.int (wsucc (by omega)); done) | (exact VW.int rfl; done) | (exact VW.lst rfl rfl; done) | (exact VW.cptr rfl; done) | (exact VW.fn .nil; done) | (exact VW.bool rfl; done) | (exact VW.ptr rfl rfl; done) | (exact VW.sl rfl rfl rfl rfl; done) | (exact VW.no rfl; done) | (exact VW.eo rfl; done) | (exact VW.nils; done) | (exact VW.emp; done) | (exact VW.str rfl; done) | (exact VW.int (by first | (simp; done) | fail); done)), trivial⟩, ⟨(by first | (exact bw_mbx; done) | (exact bw_img; done) | (exact BW.tik rfl (by first | (simp; done) | omega); done)), trivial⟩⟩; done) | (first | omega | contradiction | (simp_all; done); done)
          first | (exact ⟨trivial, rfl⟩; done) | (exact ⟨rfl, rfl⟩; done) | (trivial; done) | (rfl; done) | (first | omega | contradiction | (simp_all; done); done)
        · have g2 := of_decide_eq_false h2
          try simp only [List.length_map] at g2
          refine ⟨?_, ?_⟩
          · first | (exact ⟨trivial, (by first | trivial | simp [frzOk]), ⟨(by first | (exact VW.int (wsucc (by omega)); done) | (exact VW.int rfl; done) | (exact VW.lst rfl rfl; done) | (exact VW.cptr rfl; done) | (exact VW.fn .nil; done) | (exact VW.bool rfl; done) | (exact VW.ptr rfl rfl; done) | (exact VW.sl rfl rfl rfl rfl; done) | (exact VW.no rfl; done) | (exact VW.eo rfl; done) | (exact VW.nils; done) | (exact VW.emp; done) | (exact VW.str rfl; done) | (exact VW.int (by first | (simp; done) | fail); done)), (by first | (exact VW.int (wsucc (by omega)); done) | (exact VW.int rfl; done) | (exact VW.lst rfl rfl; done) | (exact VW.cptr rfl; done) | (exact VW.fn .nil; done) | (exact VW.bool rfl; done) | (exact VW.ptr rfl rfl; done) | (exact VW.sl rfl rfl rfl rfl; done) | (exact VW.no rfl; done) | (exact VW.eo rfl; done) | (exact VW.nils; done) | (exact VW.emp; done) | (exact VW.str rfl; done) | (exact VW.int (by first | (simp; done) | fail); done)), (by first | (exact VW.int (wsucc (by omega)); done) | (exact VW.int rfl; done) | (exact VW.lst rfl rfl; done) | (exact VW.cptr rfl; done) | (exact VW.fn .nil; done) | (exact VW.bool rfl; done) | (exact VW.ptr rfl rfl; done) | (exact VW.sl rfl rfl rfl rfl; done) | (exact VW.no rfl; done) | (exact VW.eo rfl; done) | (exact VW.nils; done) | (exact VW.emp; done) | (exact VW.str rfl; done) | (exact VW.int (by first | (simp; done) | fail); done)), (by first | (exact VW.int (wsucc (by omega)); done) | (exact VW.int rfl; done) | (exact VW.lst rfl rfl; done) | (exact VW.cptr rfl; done) | (exact VW.fn .nil; done) | (exact VW.bool rfl; done) | (exact VW.ptr rfl rfl; done) | (exact VW.sl rfl rfl rfl rfl; done) | (exact VW.no rfl; done) | (exact VW.eo rfl; done) | (exact VW.nils; done) | (exact VW.emp; done) | (exact VW.str rfl; done) | (exact VW.int (by first | (simp; done) | fail); done)), (by first | (exact VW.int (wsucc (by omega)); done) | (exact VW.int rfl; done) | (exact VW.lst rfl rfl; done) | (exact VW.cptr rfl; done) | (exact VW.fn .nil; done) | (exact VW.bool rfl; done) | (exact VW.ptr rfl rfl; done) | (exact VW.sl rfl rfl rfl rfl; done) | (exact VW.no rfl; done) | (exact VW.eo rfl; done) | (exact VW.nils; done) | (exact VW.emp; done) | (exact VW.str rfl; done) | (exact VW.int (by first | (simp; done) | fail); done)), trivial⟩, ⟨(by first | (exact bw_mbx; done) | (exact bw_img; done) | (exact BW.tik rfl (by first | (simp; done) | omega); done)), (by first | (exact bw_mbx; done) | (exact bw_img; done) | (exact BW.tik rfl (by first | (simp; done) | omega); done)), trivial⟩⟩; done) | (first | omega | contradiction | (simp_all; done); done)
          first | (exact nx; done) | (first | omega | contradiction | (simp_all; done); done)
    · have g0 := of_decide_eq_false h0
      try simp only [List.length_map] at g0
      refine ⟨by first | trivial | rfl | exact ⟨rfl, trivial⟩ | simp, ?_⟩
      refine ⟨?_, ?_⟩
      · first | (exact ⟨trivial, (by first | trivial | simp [frzOk]), ⟨(by first | (exact VW.int (wsucc (by omega)); done) | (exact VW.int rfl; done) | (exact VW.lst rfl rfl; done) | (exact VW.cptr rfl; done) | (exact VW.fn .nil; done) | (exact VW.bool rfl; done) | (exact VW.ptr rfl rfl; done) | (exact VW.sl rfl rfl rfl rfl; done) | (exact VW.no rfl; done) | (exact VW.eo rfl; done) | (exact VW.nils; done) | (exact VW.emp; done) | (exact VW.str rfl; done) | (exact VW.int (by first | (simp; done) | fail); done)), (by first | (exact VW.int (wsucc (by omega)); done) | (exact VW.int rfl; done) | (exact VW.lst rfl rfl; done) | (exact VW.cptr rfl; done) | (exact VW.fn .nil; done) | (exact VW.bool rfl; done) | (exact VW.ptr rfl rfl; done) | (exact VW.sl rfl rfl rfl rfl; done) | (exact VW.no rfl; done) | (exact VW.eo rfl; done) | (exact VW.nils; done) | (exact VW.emp; done) | (exact VW.str rfl; done) | (exact VW.int (by first | (simp; done) | fail); done)), trivial⟩, ⟨(by first | (exact bw_mbx; done) | (exact bw_img; done) | (exact BW.tik rfl (by first | (simp; done) | omega); done)), (by first | (exact bw_mbx; done) | (exact bw_img; done) | (exact BW.tik rfl (by first | (simp; done) | omega); done)), trivial⟩⟩; done) | (first | omega | contradiction | (simp_all; done); done)
      first | (exact ⟨trivial, rfl⟩; done) | (exact ⟨rfl, rfl⟩; done) | (trivial; done) | (rfl; done) | (first | omega | contradiction | (simp_all; done); done)
theorem sh37 (l : List Ins) (m s : Int) (x : Mc) (hs : Sm x) : Sh Tryd.prog X.G 37 [imgP l m s, .ptr 0 0] [mbx x] (.bool (fitM l m s x)) [mbx x] := by
  obtain ⟨iso, shr, hC⟩ : ∃ iso shr, OrcOk Tryd.prog X.G ⟨iso, shr, ownS X.sh, []⟩ := ⟨_, _, iso0⟩
  by_cases he : ∀ j, j < (x.s.drop 1).length → decide (((x.s.drop 1).getD j default).length ≤ 1000) = true
  · by_cases hc' : ∀ j, j < x.c.length → decide (0 ≤ (x.c.getD j default).site ∧ (x.c.getD j default).site < l.length) = true
    · refine wfun_ok env hC fd37 (t37a iso shr l m s x) ?_ hhS
      simp only [Holds]
      refine ⟨fun h0 => ?_, fun h0 => ?_⟩
      · have g0 := bne_iff_ne.1 h0
        try simp only [List.length_map] at g0
        refine ⟨fun h1 => ?_, fun h1 => ?_⟩
        · have g1 := bne_iff_ne.1 h1
          try simp only [List.length_map] at g1
          first | (exact ⟨[], [0], rfl, trivial, ⟨VW.bool (fit_1 (by omega)), trivial⟩, ⟨bw_mbx, trivial⟩⟩; done) | (exact ⟨[], [0], rfl, trivial, ⟨VW.bool ((by rw [← fit_4 (by omega) he hc']; exact (decide_eq_false (by omega)).symm)), trivial⟩, ⟨bw_mbx, trivial⟩⟩; done) | (exact ⟨[], [0], rfl, trivial, ⟨VW.bool ((by rw [← fit_4 (by omega) he hc']; exact decide_eq_decide.2 (by omega))), trivial⟩, ⟨bw_mbx, trivial⟩⟩; done) | (exact ⟨[], [0], rfl, trivial, ⟨VW.bool ((by rw [← fit_4 (by omega) he hc']; exact (decide_eq_true (by omega)).symm)), trivial⟩, ⟨bw_mbx, trivial⟩⟩; done) | (first | omega | contradiction | (simp_all; done); done)
        · have g1 := bne_eq_false_iff_eq.1 h1
          try simp only [List.length_map] at g1
          refine ⟨fun h2 => ?_, fun h2 => ?_⟩
          · have g2 := of_decide_eq_true h2
            try simp only [List.length_map] at g2
            first | (exact ⟨[], [0], rfl, trivial, ⟨VW.bool (fit_1 (by omega)), trivial⟩, ⟨bw_mbx, trivial⟩⟩; done) | (exact ⟨[], [0], rfl, trivial, ⟨VW.bool ((by rw [← fit_4 (by omega) he hc']; exact (decide_eq_false (by omega)).symm)), trivial⟩, ⟨bw_mbx, trivial⟩⟩; done) | (exact ⟨[], [0], rfl, trivial, ⟨VW.bool ((by rw [← fit_4 (by omega) he hc']; exact decide_eq_decide.2 (by omega))), trivial⟩, ⟨bw_mbx, trivial⟩⟩; done) | (exact ⟨[], [0], rfl, trivial, ⟨VW.bool ((by rw [← fit_4 (by omega) he hc']; exact (decide_eq_true (by omega)).symm)), trivial⟩, ⟨bw_mbx, trivial⟩⟩; done) | (first | omega | contradiction | (simp_all; done); done)
          · have g2 := of_decide_eq_false h2
            try simp only [List.length_map] at g2
            refine ⟨fun h3 => ?_, fun h3 => ?_⟩
            · have g3 := of_decide_eq_true h3
              try simp only [List.length_map] at g3
              first | (exact ⟨[], [0], rfl, trivial, ⟨VW.bool (fit_1 (by omega)), trivial⟩, ⟨bw_mbx, trivial⟩⟩; done) | (exact ⟨[], [0], rfl, trivial, ⟨VW.bool ((by rw [← fit_4 (by omega) he hc']; exact (decide_eq_false (by omega)).symm)), trivial⟩, ⟨bw_mbx, trivial⟩⟩; done) | (exact ⟨[], [0], rfl, trivial, ⟨VW.bool ((by rw [← fit_4 (by omega) he hc']; exact decide_eq_decide.2 (by omega))), trivial⟩, ⟨bw_mbx, trivial⟩⟩; done) | (exact ⟨[], [0], rfl, trivial, ⟨VW.bool ((by rw [← fit_4 (by omega) he hc']; exact (decide_eq_true (by omega)).symm)), trivial⟩, ⟨bw_mbx, trivial⟩⟩; done) | (first | omega | contradiction | (simp_all; done); done)
            · have g3 := of_decide_eq_false h3
              try simp only [List.length_map] at g3
              refine ⟨fun h4 => ?_, fun h4 => ?_⟩
              · have g4 := bne_iff_ne.1 h4
                try simp only [List.length_map] at g4
                first | (exact ⟨[], [0], rfl, trivial, ⟨VW.bool (fit_1 (by omega)), trivial⟩, ⟨bw_mbx, trivial⟩⟩; done) | (exact ⟨[], [0], rfl, trivial, ⟨VW.bool ((by rw [← fit_4 (by omega) he hc']; exact (decide_eq_false (by omega)).symm)), trivial⟩, ⟨bw_mbx, trivial⟩⟩; done) | (exact ⟨[], [0], rfl, trivial, ⟨VW.bool ((by rw [← fit_4 (by omega) he hc']; exact decide_eq_decide.2 (by omega))), trivial⟩, ⟨bw_mbx, trivial⟩⟩; done) | (exact ⟨[], [0], rfl, trivial, ⟨VW.bool ((by rw [← fit_4 (by omega) he hc']; exact (decide_eq_true (by omega)).symm)), trivial⟩, ⟨bw_mbx, trivial⟩⟩; done) | (first | omega | contradiction | (simp_all; done); done)
              · have g4 := bne_eq_false_iff_eq.1 h4
                try simp only [List.length_map] at g4
                refine ⟨fun h5 => ?_, fun h5 => ?_⟩
                · have g5 := bne_iff_ne.1 h5
                  try simp only [List.length_map] at g5
                  first | (exact ⟨[], [0], rfl, trivial, ⟨VW.bool (fit_1 (by omega)), trivial⟩, ⟨bw_mbx, trivial⟩⟩; done) | (exact ⟨[], [0], rfl, trivial, ⟨VW.bool ((by rw [← fit_4 (by omega) he hc']; exact (decide_eq_false (by omega)).symm)), trivial⟩, ⟨bw_mbx, trivial⟩⟩; done) | (exact ⟨[], [0], rfl, trivial, ⟨VW.bool ((by rw [← fit_4 (by omega) he hc']; exact decide_eq_decide.2 (by omega))), trivial⟩, ⟨bw_mbx, trivial⟩⟩; done) | (exact ⟨[], [0], rfl, trivial, ⟨VW.bool ((by rw [← fit_4 (by omega) he hc']; exact (decide_eq_true (by omega)).symm)), trivial⟩, ⟨bw_mbx, trivial⟩⟩; done) | (first | omega | contradiction | (simp_all; done); done)
                · have g5 := bne_eq_false_iff_eq.1 h5
                  try simp only [List.length_map] at g5
                  refine ⟨fun h6 => ?_, fun h6 => ?_⟩
                  · have g6 := beq_iff_eq.1 h6
                    try simp only [List.length_map] at g6
                    first | (exact ⟨[], [0], rfl, trivial, ⟨VW.bool (fit_1 (by omega)), trivial⟩, ⟨bw_mbx, trivial⟩⟩; done) | (exact ⟨[], [0], rfl, trivial, ⟨VW.bool ((by rw [← fit_4 (by omega) he hc']; exact (decide_eq_false (by omega)).symm)), trivial⟩, ⟨bw_mbx, trivial⟩⟩; done) | (exact ⟨[], [0], rfl, trivial, ⟨VW.bool ((by rw [← fit_4 (by omega) he hc']; exact decide_eq_decide.2 (by omega))), trivial⟩, ⟨bw_mbx, trivial⟩⟩; done) | (exact ⟨[], [0], rfl, trivial, ⟨VW.bool ((by rw [← fit_4 (by omega) he hc']; exact (decide_eq_true (by omega)).symm)), trivial⟩, ⟨bw_mbx, trivial⟩⟩; done) | (first | omega | contradiction | (simp_all; done); done)
                  · have g6 := beq_eq_false_iff_ne.1 h6
                    try simp only [List.length_map] at g6
                    refine ⟨?_, ?_⟩
                    · first | (exact px26 (by omega); done) | (exact px27 (by omega); done) | (exact px28 (by omega); done) | (exact sl27 (by omega); done) | (first | omega | contradiction | (simp_all; done); done)
                    refine ⟨?_, ?_⟩
                    · first | (exact ⟨trivial, (by first | trivial | simp [frzOk]), ⟨(by first | (exact VW.int (wsucc (by omega)); done) | (exact VW.int rfl; done) | (exact VW.lst rfl rfl; done) | (exact VW.cptr rfl; done) | (exact VW.fn .nil; done) | (exact VW.bool rfl; done) | (exact VW.ptr rfl rfl; done) | (exact VW.sl rfl rfl rfl rfl; done) | (exact VW.no rfl; done) | (exact VW.eo rfl; done) | (exact VW.nils; done) | (exact VW.emp; done) | (exact VW.str rfl; done) | (exact VW.int (by first | (simp; done) | fail); done)), (by first | (exact VW.int (wsucc (by omega)); done) | (exact VW.int rfl; done) | (exact VW.lst rfl rfl; done) | (exact VW.cptr rfl; done) | (exact VW.fn .nil; done) | (exact VW.bool rfl; done) | (exact VW.ptr rfl rfl; done) | (exact VW.sl rfl rfl rfl rfl; done) | (exact VW.no rfl; done) | (exact VW.eo rfl; done) | (exact VW.nils; done) | (exact VW.emp; done) | (exact VW.str rfl; done) | (exact VW.int (by first | (simp; done) | fail); done)), (by first | (exact VW.int (wsucc (by omega)); done) | (exact VW.int rfl; done) | (exact VW.lst rfl rfl; done) | (exact VW.cptr rfl; done) | (exact VW.fn .nil; done) | (exact VW.bool rfl; done) | (exact VW.ptr rfl rfl; done) | (exact VW.sl rfl rfl rfl rfl; done) | (exact VW.no rfl; done) | (exact VW.eo rfl; done) | (exact VW.nils; done) | (exact VW.emp; done) | (exact VW.str rfl; done) | (exact VW.int (by first | (simp; done) | fail); done)), (by first | (exact VW.int (wsucc (by omega)); done) | (exact VW.int rfl; done) | (exact VW.lst rfl rfl; done) | (exact VW.cptr rfl; done) | (exact VW.fn .nil; done) | (exact VW.bool rfl; done) | (exact VW.ptr rfl rfl; done) | (exact VW.sl rfl rfl rfl rfl; done) | (exact VW.no rfl; done) | (exact VW.eo rfl; done) | (exact VW.nils; done) | (exact VW.emp; done) | (exact VW.str rfl; done) | (exact VW.int (by first | (simp; done) | fail); done)), (by first | (exact VW.int (wsucc (by omega)); done) | (exact VW.int rfl; done) | (exact VW.lst rfl rfl; done) | (exact VW.cptr rfl; done) | (exact VW.fn .nil; done) | (exact VW.bool rfl; done) | (exact VW.ptr rfl rfl; done) | (exact VW.sl rfl rfl rfl rfl; done) | (exact VW.no rfl; done) | (exact VW.eo rfl; done) | (exact VW.nils; done) | (exact VW.emp; done) | (exact VW.str rfl; done) | (exact VW.int (by first | (simp; done) | fail); done)), trivial⟩, ⟨(by first | (exact bw_mbx; done) | (exact bw_img; done) | (exact BW.tik rfl (by first | (simp; done) | omega); done)), (by first | (exact bw_mbx; done) | (exact bw_img; done) | (exact BW.tik rfl (by first | (simp; done) | omega); done)), trivial⟩⟩; done) | (first | omega | contradiction | (simp_all; done); done)
                    refine ⟨?_, ?_⟩
                    · first | (exact (lp37s iso shr hC l m s x hs).1 he; done) | (first | omega | contradiction | (simp_all; done); done)
                    refine ⟨?_, ?_⟩
                    · first | (exact ⟨trivial, (by first | trivial | simp [frzOk]), ⟨(by first | (exact VW.int (wsucc (by omega)); done) | (exact VW.int rfl; done) | (exact VW.lst rfl rfl; done) | (exact VW.cptr rfl; done) | (exact VW.fn .nil; done) | (exact VW.bool rfl; done) | (exact VW.ptr rfl rfl; done) | (exact VW.sl rfl rfl rfl rfl; done) | (exact VW.no rfl; done) | (exact VW.eo rfl; done) | (exact VW.nils; done) | (exact VW.emp; done) | (exact VW.str rfl; done) | (exact VW.int (by first | (simp; done) | fail); done)), (by first | (exact VW.int (wsucc (by omega)); done) | (exact VW.int rfl; done) | (exact VW.lst rfl rfl; done) | (exact VW.cptr rfl; done) | (exact VW.fn .nil; done) | (exact VW.bool rfl; done) | (exact VW.ptr rfl rfl; done) | (exact VW.sl rfl rfl rfl rfl; done) | (exact VW.no rfl; done) | (exact VW.eo rfl; done) | (exact VW.nils; done) | (exact VW.emp; done) | (exact VW.str rfl; done) | (exact VW.int (by first | (simp; done) | fail); done)), (by first | (exact VW.int (wsucc (by omega)); done) | (exact VW.int rfl; done) | (exact VW.lst rfl rfl; done) | (exact VW.cptr rfl; done) | (exact VW.fn .nil; done) | (exact VW.bool rfl; done) | (exact VW.ptr rfl rfl; done) | (exact VW.sl rfl rfl rfl rfl; done) | (exact VW.no rfl; done) | (exact VW.eo rfl; done) | (exact VW.nils; done) | (exact VW.emp; done) | (exact VW.str rfl; done) | (exact VW.int (by first | (simp; done) | fail); done)), (by first | (exact VW.int (wsucc (by omega)); done) | (exact VW.int rfl; done) | (exact VW.lst rfl rfl; done) | (exact VW.cptr rfl; done) | (exact VW.fn .nil; done) | (exact VW.bool rfl; done) | (exact VW.ptr rfl rfl; done) | (exact VW.sl rfl rfl rfl rfl; done) | (exact VW.no rfl; done) | (exact VW.eo rfl; done) | (exact VW.nils; done) | (exact VW.emp; done) | (exact VW.str rfl; done) | (exact VW.int (by first | (simp; done) | fail); done)), (by first | (exact VW.int (wsucc (by omega)); done) | (exact VW.int rfl; done) | (exact VW.lst rfl rfl; done) | (exact VW.cptr rfl; done) | (exact VW.fn .nil; done) | (exact VW.bool rfl; done) | (exact VW.ptr rfl rfl; done) | (exact VW.sl rfl rfl rfl rfl; done) | (exact VW.no rfl; done) | (exact VW.eo rfl; done) | (exact VW.nils; done) | (exact VW.emp; done) | (exact VW.str rfl; done) | (exact VW.int (by first | (simp; done) | fail); done)), trivial⟩, ⟨(by first | (exact bw_mbx; done) | (exact bw_img; done) | (exact BW.tik rfl (by first | (simp; done) | omega); done)), (by first | (exact bw_mbx; done) | (exact bw_img; done) | (exact BW.tik rfl (by first | (simp; done) | omega); done)), trivial⟩⟩; done) | (first | omega | contradiction | (simp_all; done); done)
                    refine ⟨?_, ?_⟩
                    · first | (exact (lp37c iso shr hC l m s x hs).1 hc'; done) | (first | omega | contradiction | (simp_all; done); done)
                    refine ⟨fun h7 => ?_, fun h7 => ?_⟩
                    · have g7 := of_decide_eq_true h7
                      try simp only [List.length_map] at g7
                      refine ⟨fun h8 => ?_, fun h8 => ?_⟩
                      · have g8 := of_decide_eq_true h8
                        try simp only [List.length_map] at g8
                        refine ⟨fun h9 => ?_, fun h9 => ?_⟩
                        · have g9 := of_decide_eq_true h9
                          try simp only [List.length_map] at g9
                          refine ⟨fun h10 => ?_, fun h10 => ?_⟩
                          · have g10 := of_decide_eq_true h10
                            try simp only [List.length_map] at g10
                            refine ⟨fun h11 => ?_, fun h11 => ?_⟩
                            · have g11 := of_decide_eq_true h11
                              try simp only [List.length_map] at g11
                              refine ⟨fun h12 => ?_, fun h12 => ?_⟩
                              · have g12 := of_decide_eq_true h12
                                try simp only [List.length_map] at g12
                                refine ⟨fun h13 => ?_, fun h13 => ?_⟩
                                · have g13 := of_decide_eq_true h13
                                  try simp only [List.length_map] at g13
                                  first | (exact ⟨[], [0], rfl, trivial, ⟨VW.bool (fit_1 (by omega)), trivial⟩, ⟨bw_mbx, trivial⟩⟩; done) | (exact ⟨[], [0], rfl, trivial, ⟨VW.bool ((by rw [← fit_4 (by omega) he hc']; exact (decide_eq_false (by omega)).symm)), trivial⟩, ⟨bw_mbx, trivial⟩⟩; done) | (exact ⟨[], [0], rfl, trivial, ⟨VW.bool ((by rw [← fit_4 (by omega) he hc']; exact decide_eq_decide.2 (by omega))), trivial⟩, ⟨bw_mbx, trivial⟩⟩; done) | (exact ⟨[], [0], rfl, trivial, ⟨VW.bool ((by rw [← fit_4 (by omega) he hc']; exact (decide_eq_true (by omega)).symm)), trivial⟩, ⟨bw_mbx, trivial⟩⟩; done) | (first | omega | contradiction | (simp_all; done); done)
                                · have g13 := of_decide_eq_false h13
                                  try simp only [List.length_map] at g13
                                  first | (exact ⟨[], [0], rfl, trivial, ⟨VW.bool (fit_1 (by omega)), trivial⟩, ⟨bw_mbx, trivial⟩⟩; done) | (exact ⟨[], [0], rfl, trivial, ⟨VW.bool ((by rw [← fit_4 (by omega) he hc']; exact (decide_eq_false (by omega)).symm)), trivial⟩, ⟨bw_mbx, trivial⟩⟩; done) | (exact ⟨[], [0], rfl, trivial, ⟨VW.bool ((by rw [← fit_4 (by omega) he hc']; exact decide_eq_decide.2 (by omega))), trivial⟩, ⟨bw_mbx, trivial⟩⟩; done) | (exact ⟨[], [0], rfl, trivial, ⟨VW.bool ((by rw [← fit_4 (by omega) he hc']; exact (decide_eq_true (by omega)).symm)), trivial⟩, ⟨bw_mbx, trivial⟩⟩; done) | (first | omega | contradiction | (simp_all; done); done)
                              · have g12 := of_decide_eq_false h12
                                try simp only [List.length_map] at g12
                                first | (exact ⟨[], [0], rfl, trivial, ⟨VW.bool (fit_1 (by omega)), trivial⟩, ⟨bw_mbx, trivial⟩⟩; done) | (exact ⟨[], [0], rfl, trivial, ⟨VW.bool ((by rw [← fit_4 (by omega) he hc']; exact (decide_eq_false (by omega)).symm)), trivial⟩, ⟨bw_mbx, trivial⟩⟩; done) | (exact ⟨[], [0], rfl, trivial, ⟨VW.bool ((by rw [← fit_4 (by omega) he hc']; exact decide_eq_decide.2 (by omega))), trivial⟩, ⟨bw_mbx, trivial⟩⟩; done) | (exact ⟨[], [0], rfl, trivial, ⟨VW.bool ((by rw [← fit_4 (by omega) he hc']; exact (decide_eq_true (by omega)).symm)), trivial⟩, ⟨bw_mbx, trivial⟩⟩; done) | (first | omega | contradiction | (simp_all; done); done)
                            · have g11 := of_decide_eq_false h11
                              try simp only [List.length_map] at g11
                              first | (exact ⟨[], [0], rfl, trivial, ⟨VW.bool (fit_1 (by omega)), trivial⟩, ⟨bw_mbx, trivial⟩⟩; done) | (exact ⟨[], [0], rfl, trivial, ⟨VW.bool ((by rw [← fit_4 (by omega) he hc']; exact (decide_eq_false (by omega)).symm)), trivial⟩, ⟨bw_mbx, trivial⟩⟩; done) | (exact ⟨[], [0], rfl, trivial, ⟨VW.bool ((by rw [← fit_4 (by omega) he hc']; exact decide_eq_decide.2 (by omega))), trivial⟩, ⟨bw_mbx, trivial⟩⟩; done) | (exact ⟨[], [0], rfl, trivial, ⟨VW.bool ((by rw [← fit_4 (by omega) he hc']; exact (decide_eq_true (by omega)).symm)), trivial⟩, ⟨bw_mbx, trivial⟩⟩; done) | (first | omega | contradiction | (simp_all; done); done)
                          · have g10 := of_decide_eq_false h10
                            try simp only [List.length_map] at g10
                            first | (exact ⟨[], [0], rfl, trivial, ⟨VW.bool (fit_1 (by omega)), trivial⟩, ⟨bw_mbx, trivial⟩⟩; done) | (exact ⟨[], [0], rfl, trivial, ⟨VW.bool ((by rw [← fit_4 (by omega) he hc']; exact (decide_eq_false (by omega)).symm)), trivial⟩, ⟨bw_mbx, trivial⟩⟩; done) | (exact ⟨[], [0], rfl, trivial, ⟨VW.bool ((by rw [← fit_4 (by omega) he hc']; exact decide_eq_decide.2 (by omega))), trivial⟩, ⟨bw_mbx, trivial⟩⟩; done) | (exact ⟨[], [0], rfl, trivial, ⟨VW.bool ((by rw [← fit_4 (by omega) he hc']; exact (decide_eq_true (by omega)).symm)), trivial⟩, ⟨bw_mbx, trivial⟩⟩; done) | (first | omega | contradiction | (simp_all; done); done)
                        · have g9 := of_decide_eq_false h9
                          try simp only [List.length_map] at g9
                          first | (exact ⟨[], [0], rfl, trivial, ⟨VW.bool (fit_1 (by omega)), trivial⟩, ⟨bw_mbx, trivial⟩⟩; done) | (exact ⟨[], [0], rfl, trivial, ⟨VW.bool ((by rw [← fit_4 (by omega) he hc']; exact (decide_eq_false (by omega)).symm)), trivial⟩, ⟨bw_mbx, trivial⟩⟩; done) | (exact ⟨[], [0], rfl, trivial, ⟨VW.bool ((by rw [← fit_4 (by omega) he hc']; exact decide_eq_decide.2 (by omega))), trivial⟩, ⟨bw_mbx, trivial⟩⟩; done) | (exact ⟨[], [0], rfl, trivial, ⟨VW.bool ((by rw [← fit_4 (by omega) he hc']; exact (decide_eq_true (by omega)).symm)), trivial⟩, ⟨bw_mbx, trivial⟩⟩; done) | (first | omega | contradiction | (simp_all; done); done)
                      · have g8 := of_decide_eq_false h8
                        try simp only [List.length_map] at g8
                        first | (exact ⟨[], [0], rfl, trivial, ⟨VW.bool (fit_1 (by omega)), trivial⟩, ⟨bw_mbx, trivial⟩⟩; done) | (exact ⟨[], [0], rfl, trivial, ⟨VW.bool ((by rw [← fit_4 (by omega) he hc']; exact (decide_eq_false (by omega)).symm)), trivial⟩, ⟨bw_mbx, trivial⟩⟩; done) | (exact ⟨[], [0], rfl, trivial, ⟨VW.bool ((by rw [← fit_4 (by omega) he hc']; exact decide_eq_decide.2 (by omega))), trivial⟩, ⟨bw_mbx, trivial⟩⟩; done) | (exact ⟨[], [0], rfl, trivial, ⟨VW.bool ((by rw [← fit_4 (by omega) he hc']; exact (decide_eq_true (by omega)).symm)), trivial⟩, ⟨bw_mbx, trivial⟩⟩; done) | (first | omega | contradiction | (simp_all; done); done)
                    · have g7 := of_decide_eq_false h7
                      try simp only [List.length_map] at g7
                      first | (exact ⟨[], [0], rfl, trivial, ⟨VW.bool (fit_1 (by omega)), trivial⟩, ⟨bw_mbx, trivial⟩⟩; done) | (exact ⟨[], [0], rfl, trivial, ⟨VW.bool ((by rw [← fit_4 (by omega) he hc']; exact (decide_eq_false (by omega)).symm)), trivial⟩, ⟨bw_mbx, trivial⟩⟩; done) | (exact ⟨[], [0], rfl, trivial, ⟨VW.bool ((by rw [← fit_4 (by omega) he hc']; exact decide_eq_decide.2 (by omega))), trivial⟩, ⟨bw_mbx, trivial⟩⟩; done) | (exact ⟨[], [0], rfl, trivial, ⟨VW.bool ((by rw [← fit_4 (by omega) he hc']; exact (decide_eq_true (by omega)).symm)), trivial⟩, ⟨bw_mbx, trivial⟩⟩; done) | (first | omega | contradiction | (simp_all; done); done)
      · have g0 := bne_eq_false_iff_eq.1 h0
        try simp only [List.length_map] at g0
        refine ⟨fun h14 => ?_, fun h14 => ?_⟩
        · have g14 := of_decide_eq_true h14
          try simp only [List.length_map] at g14
          first | (exact ⟨[], [0], rfl, trivial, ⟨VW.bool (fit_1 (by omega)), trivial⟩, ⟨bw_mbx, trivial⟩⟩; done) | (exact ⟨[], [0], rfl, trivial, ⟨VW.bool ((by rw [← fit_4 (by omega) he hc']; exact (decide_eq_false (by omega)).symm)), trivial⟩, ⟨bw_mbx, trivial⟩⟩; done) | (exact ⟨[], [0], rfl, trivial, ⟨VW.bool ((by rw [← fit_4 (by omega) he hc']; exact decide_eq_decide.2 (by omega))), trivial⟩, ⟨bw_mbx, trivial⟩⟩; done) | (exact ⟨[], [0], rfl, trivial, ⟨VW.bool ((by rw [← fit_4 (by omega) he hc']; exact (decide_eq_true (by omega)).symm)), trivial⟩, ⟨bw_mbx, trivial⟩⟩; done) | (first | omega | contradiction | (simp_all; done); done)
        · have g14 := of_decide_eq_false h14
          try simp only [List.length_map] at g14
          refine ⟨fun h15 => ?_, fun h15 => ?_⟩
          · have g15 := of_decide_eq_true h15
            try simp only [List.length_map] at g15
            first | (exact ⟨[], [0], rfl, trivial, ⟨VW.bool (fit_1 (by omega)), trivial⟩, ⟨bw_mbx, trivial⟩⟩; done) | (exact ⟨[], [0], rfl, trivial, ⟨VW.bool ((by rw [← fit_4 (by omega) he hc']; exact (decide_eq_false (by omega)).symm)), trivial⟩, ⟨bw_mbx, trivial⟩⟩; done) | (exact ⟨[], [0], rfl, trivial, ⟨VW.bool ((by rw [← fit_4 (by omega) he hc']; exact decide_eq_decide.2 (by omega))), trivial⟩, ⟨bw_mbx, trivial⟩⟩; done) | (exact ⟨[], [0], rfl, trivial, ⟨VW.bool ((by rw [← fit_4 (by omega) he hc']; exact (decide_eq_true (by omega)).symm)), trivial⟩, ⟨bw_mbx, trivial⟩⟩; done) | (first | omega | contradiction | (simp_all; done); done)
          · have g15 := of_decide_eq_false h15
            try simp only [List.length_map] at g15
            refine ⟨fun h16 => ?_, fun h16 => ?_⟩
            · have g16 := bne_iff_ne.1 h16
              try simp only [List.length_map] at g16
              first | (exact ⟨[], [0], rfl, trivial, ⟨VW.bool (fit_1 (by omega)), trivial⟩, ⟨bw_mbx, trivial⟩⟩; done) | (exact ⟨[], [0], rfl, trivial, ⟨VW.bool ((by rw [← fit_4 (by omega) he hc']; exact (decide_eq_false (by omega)).symm)), trivial⟩, ⟨bw_mbx, trivial⟩⟩; done) | (exact ⟨[], [0], rfl, trivial, ⟨VW.bool ((by rw [← fit_4 (by omega) he hc']; exact decide_eq_decide.2 (by omega))), trivial⟩, ⟨bw_mbx, trivial⟩⟩; done) | (exact ⟨[], [0], rfl, trivial, ⟨VW.bool ((by rw [← fit_4 (by omega) he hc']; exact (decide_eq_true (by omega)).symm)), trivial⟩, ⟨bw_mbx, trivial⟩⟩; done) | (first | omega | contradiction | (simp_all; done); done)
            · have g16 := bne_eq_false_iff_eq.1 h16
              try simp only [List.length_map] at g16
              refine ⟨fun h17 => ?_, fun h17 => ?_⟩
              · have g17 := bne_iff_ne.1 h17
                try simp only [List.length_map] at g17
                first | (exact ⟨[], [0], rfl, trivial, ⟨VW.bool (fit_1 (by omega)), trivial⟩, ⟨bw_mbx, trivial⟩⟩; done) | (exact ⟨[], [0], rfl, trivial, ⟨VW.bool ((by rw [← fit_4 (by omega) he hc']; exact (decide_eq_false (by omega)).symm)), trivial⟩, ⟨bw_mbx, trivial⟩⟩; done) | (exact ⟨[], [0], rfl, trivial, ⟨VW.bool ((by rw [← fit_4 (by omega) he hc']; exact decide_eq_decide.2 (by omega))), trivial⟩, ⟨bw_mbx, trivial⟩⟩; done) | (exact ⟨[], [0], rfl, trivial, ⟨VW.bool ((by rw [← fit_4 (by omega) he hc']; exact (decide_eq_true (by omega)).symm)), trivial⟩, ⟨bw_mbx, trivial⟩⟩; done) | (first | omega | contradiction | (simp_all; done); done)
              · have g17 := bne_eq_false_iff_eq.1 h17
                try simp only [List.length_map] at g17
                refine ⟨fun h18 => ?_, fun h18 => ?_⟩
                · have g18 := beq_iff_eq.1 h18
                  try simp only [List.length_map] at g18
                  first | (exact ⟨[], [0], rfl, trivial, ⟨VW.bool (fit_1 (by omega)), trivial⟩, ⟨bw_mbx, trivial⟩⟩; done) | (exact ⟨[], [0], rfl, trivial, ⟨VW.bool ((by rw [← fit_4 (by omega) he hc']; exact (decide_eq_false (by omega)).symm)), trivial⟩, ⟨bw_mbx, trivial⟩⟩; done) | (exact ⟨[], [0], rfl, trivial, ⟨VW.bool ((by rw [← fit_4 (by omega) he hc']; exact decide_eq_decide.2 (by omega))), trivial⟩, ⟨bw_mbx, trivial⟩⟩; done) | (exact ⟨[], [0], rfl, trivial, ⟨VW.bool ((by rw [← fit_4 (by omega) he hc']; exact (decide_eq_true (by omega)).symm)), trivial⟩, ⟨bw_mbx, trivial⟩⟩; done) | (first | omega | contradiction | (simp_all; done); done)
                · have g18 := beq_eq_false_iff_ne.1 h18
                  try simp only [List.length_map] at g18
                  refine ⟨?_, ?_⟩
                  · first | (exact px26 (by omega); done) | (exact px27 (by omega); done) | (exact px28 (by omega); done) | (exact sl27 (by omega); done) | (first | omega | contradiction | (simp_all; done); done)
                  refine ⟨?_, ?_⟩
                  · first | (exact ⟨trivial, (by first | trivial | simp [frzOk]), ⟨(by first | (exact VW.int (wsucc (by omega)); done) | (exact VW.int rfl; done) | (exact VW.lst rfl rfl; done) | (exact VW.cptr rfl; done) | (exact VW.fn .nil; done) | (exact VW.bool rfl; done) | (exact VW.ptr rfl rfl; done) | (exact VW.sl rfl rfl rfl rfl; done) | (exact VW.no rfl; done) | (exact VW.eo rfl; done) | (exact VW.nils; done) | (exact VW.emp; done) | (exact VW.str rfl; done) | (exact VW.int (by first | (simp; done) | fail); done)), (by first | (exact VW.int (wsucc (by omega)); done) | (exact VW.int rfl; done) | (exact VW.lst rfl rfl; done) | (exact VW.cptr rfl; done) | (exact VW.fn .nil; done) | (exact VW.bool rfl; done) | (exact VW.ptr rfl rfl; done) | (exact VW.sl rfl rfl rfl rfl; done) | (exact VW.no rfl; done) | (exact VW.eo rfl; done) | (exact VW.nils; done) | (exact VW.emp; done) | (exact VW.str rfl; done) | (exact VW.int (by first | (simp; done) | fail); done)), (by first | (exact VW.int (wsucc (by omega)); done) | (exact VW.int rfl; done) | (exact VW.lst rfl rfl; done) | (exact VW.cptr rfl; done) | (exact VW.fn .nil; done) | (exact VW.bool rfl; done) | (exact VW.ptr rfl rfl; done) | (exact VW.sl rfl rfl rfl rfl; done) | (exact VW.no rfl; done) | (exact VW.eo rfl; done) | (exact VW.nils; done) | (exact VW.emp; done) | (exact VW.str rfl; done) | (exact VW.int (by first | (simp; done) | fail); done)), (by first | (exact VW.int (wsucc (by omega)); done) | (exact VW.int rfl; done) | (exact VW.lst rfl rfl; done) | (exact VW.cptr rfl; done) | (exact VW.fn .nil; done) | (exact VW.bool rfl; done) | (exact VW.ptr rfl rfl; done) | (exact VW.sl rfl rfl rfl rfl; done) | (exact VW.no rfl; done) | (exact VW.eo rfl; done) | (exact VW.nils; done) | (exact VW.emp; done) | (exact VW.str rfl; done) | (exact VW.int (by first | (simp; done) | fail); done)), (by first | (exact VW.int (wsucc (by omega)); done) | (exact VW.int rfl; done) | (exact VW.lst rfl rfl; done) | (exact VW.cptr rfl; done) | (exact VW.fn .nil; done) | (exact VW.bool rfl; done) | (exact VW.ptr rfl rfl; done) | (exact VW.sl rfl rfl rfl rfl; done) | (exact VW.no rfl; done) | (exact VW.eo rfl; done) | (exact VW.nils; done) | (exact VW.emp; done) | (exact VW.str rfl; done) | (exact VW.int (by first | (simp; done) | fail); done)), trivial⟩, ⟨(by first | (exact bw_mbx; done) | (exact bw_img; done) | (exact BW.tik rfl (by first | (simp; done) | omega); done)), (by first | (exact bw_mbx; done) | (exact bw_img; done) | (exact BW.tik rfl (by first | (simp; done) | omega); done)), trivial⟩⟩; done) | (first | omega | contradiction | (simp_all; done); done)
                  refine ⟨?_, ?_⟩
                  · first | (exact (lp37s iso shr hC l m s x hs).1 he; done) | (first | omega | contradiction | (simp_all; done); done)
                  refine ⟨?_, ?_⟩
                  · first | (exact ⟨trivial, (by first | trivial | simp [frzOk]), ⟨(by first | (exact VW.int (wsucc (by omega)); done) | (exact VW.int rfl; done) | (exact VW.lst rfl rfl; done) | (exact VW.cptr rfl; done) | (exact VW.fn .nil; done) | (exact VW.bool rfl; done) | (exact VW.ptr rfl rfl; done) | (exact VW.sl rfl rfl rfl rfl; done) | (exact VW.no rfl; done) | (exact VW.eo rfl; done) | (exact VW.nils; done) | (exact VW.emp; done) | (exact VW.str rfl; done) | (exact VW.int (by first | (simp; done) | fail); done)), (by first | (exact VW.int (wsucc (by omega)); done) | (exact VW.int rfl; done) | (exact VW.lst rfl rfl; done) | (exact VW.cptr rfl; done) | (exact VW.fn .nil; done) | (exact VW.bool rfl; done) | (exact VW.ptr rfl rfl; done) | (exact VW.sl rfl rfl rfl rfl; done) | (exact VW.no rfl; done) | (exact VW.eo rfl; done) | (exact VW.nils; done) | (exact VW.emp; done) | (exact VW.str rfl; done) | (exact VW.int (by first | (simp; done) | fail); done)), (by first | (exact VW.int (wsucc (by omega)); done) | (exact VW.int rfl; done) | (exact VW.lst rfl rfl; done) | (exact VW.cptr rfl; done) | (exact VW.fn .nil; done) | (exact VW.bool rfl; done) | (exact VW.ptr rfl rfl; done) | (exact VW.sl rfl rfl rfl rfl; done) | (exact VW.no rfl; done) | (exact VW.eo rfl; done) | (exact VW.nils; done) | (exact VW.emp; done) | (exact VW.str rfl; done) | (exact VW.int (by first | (simp; done) | fail); done)), (by first | (exact VW.int (wsucc (by omega)); done) | (exact VW.int rfl; done) | (exact VW.lst rfl rfl; done) | (exact VW.cptr rfl; done) | (exact VW.fn .nil; done) | (exact VW.bool rfl; done) | (exact VW.ptr rfl rfl; done) | (exact VW.sl rfl rfl rfl rfl; done) | (exact VW.no rfl; done) | (exact VW.eo rfl; done) | (exact VW.nils; done) | (exact VW.emp; done) | (exact VW.str rfl; done) | (exact VW.int (by first | (simp; done) | fail); done)), (by first | (exact VW.int (wsucc (by omega)); done) | (exact VW.int rfl; done) | (exact VW.lst rfl rfl; done) | (exact VW.cptr rfl; done) | (exact VW.fn .nil; done) | (exact VW.bool rfl; done) | (exact VW.ptr rfl rfl; done) | (exact VW.sl rfl rfl rfl rfl; done) | (exact VW.no rfl; done) | (exact VW.eo rfl; done) | (exact VW.nils; done) | (exact VW.emp; done) | (exact VW.str rfl; done) | (exact VW.int (by first | (simp; done) | fail); done)), trivial⟩, ⟨(by first | (exact bw_mbx; done) | (exact bw_img; done) | (exact BW.tik rfl (by first | (simp; done) | omega); done)), (by first | (exact bw_mbx; done) | (exact bw_img; done) | (exact BW.tik rfl (by first | (simp; done) | omega); done)), trivial⟩⟩; done) | (first | omega | contradiction | (simp_all; done); done)
                  refine ⟨?_, ?_⟩
                  · first | (exact (lp37c iso shr hC l m s x hs).1 hc'; done) | (first | omega | contradiction | (simp_all; done); done)
                  refine ⟨fun h19 => ?_, fun h19 => ?_⟩
                  · have g19 := of_decide_eq_true h19
                    try simp only [List.length_map] at g19
                    refine ⟨fun h20 => ?_, fun h20 => ?_⟩
                    · have g20 := of_decide_eq_true h20
                      try simp only [List.length_map] at g20
                      refine ⟨fun h21 => ?_, fun h21 => ?_⟩
                      · have g21 := of_decide_eq_true h21
                        try simp only [List.length_map] at g21
                        refine ⟨fun h22 => ?_, fun h22 => ?_⟩
                        · have g22 := of_decide_eq_true h22
                          try simp only [List.length_map] at g22
                          refine ⟨fun h23 => ?_, fun h23 => ?_⟩
                          · have g23 := of_decide_eq_true h23
                            try simp only [List.length_map] at g23
                            refine ⟨fun h24 => ?_, fun h24 => ?_⟩
                            · have g24 := of_decide_eq_true h24
                              try simp only [List.length_map] at g24
                              refine ⟨fun h25 => ?_, fun h25 => ?_⟩
                              · have g25 := of_decide_eq_true h25
                                try simp only [List.length_map] at g25
                                first | (exact ⟨[], [0], rfl, trivial, ⟨VW.bool (fit_1 (by omega)), trivial⟩, ⟨bw_mbx, trivial⟩⟩; done) | (exact ⟨[], [0], rfl, trivial, ⟨VW.bool ((by rw [← fit_4 (by omega) he hc']; exact (decide_eq_false (by omega)).symm)), trivial⟩, ⟨bw_mbx, trivial⟩⟩; done) | (exact ⟨[], [0], rfl, trivial, ⟨VW.bool ((by rw [← fit_4 (by omega) he hc']; exact decide_eq_decide.2 (by omega))), trivial⟩, ⟨bw_mbx, trivial⟩⟩; done) | (exact ⟨[], [0], rfl, trivial, ⟨VW.bool ((by rw [← fit_4 (by omega) he hc']; exact (decide_eq_true (by omega)).symm)), trivial⟩, ⟨bw_mbx, trivial⟩⟩; done) | (first | omega | contradiction | (simp_all; done); done)
                              · have g25 := of_decide_eq_false h25
                                try simp only [List.length_map] at g25
                                first | (exact ⟨[], [0], rfl, trivial, ⟨VW.bool (fit_1 (by omega)), trivial⟩, ⟨bw_mbx, trivial⟩⟩; done) | (exact ⟨[], [0], rfl, trivial, ⟨VW.bool ((by rw [← fit_4 (by omega) he hc']; exact (decide_eq_false (by omega)).symm)), trivial⟩, ⟨bw_mbx, trivial⟩⟩; done) | (exact ⟨[], [0], rfl, trivial, ⟨VW.bool ((by rw [← fit_4 (by omega) he hc']; exact decide_eq_decide.2 (by omega))), trivial⟩, ⟨bw_mbx, trivial⟩⟩; done) | (exact ⟨[], [0], rfl, trivial, ⟨VW.bool ((by rw [← fit_4 (by omega) he hc']; exact (decide_eq_true (by omega)).symm)), trivial⟩, ⟨bw_mbx, trivial⟩⟩; done) | (first | omega | contradiction | (simp_all; done); done)
                            · have g24 := of_decide_eq_false h24
                              try simp only [List.length_map] at g24
                              first | (exact ⟨[], [0], rfl, trivial, ⟨VW.bool (fit_1 (by omega)), trivial⟩, ⟨bw_mbx, trivial⟩⟩; done) | (exact ⟨[], [0], rfl, trivial, ⟨VW.bool ((by rw [← fit_4 (by omega) he hc']; exact (decide_eq_false (by omega)).symm)), trivial⟩, ⟨bw_mbx, trivial⟩⟩; done) | (exact ⟨[], [0], rfl, trivial, ⟨VW.bool ((by rw [← fit_4 (by omega) he hc']; exact decide_eq_decide.2 (by omega))), trivial⟩, ⟨bw_mbx, trivial⟩⟩; done) | (exact ⟨[], [0], rfl, trivial, ⟨VW.bool ((by rw [← fit_4 (by omega) he hc']; exact (decide_eq_true (by omega)).symm)), trivial⟩, ⟨bw_mbx, trivial⟩⟩; done) | (first | omega | contradiction | (simp_all; done); done)
                          · have g23 := of_decide_eq_false h23
                            try simp only [List.length_map] at g23
                            first | (exact ⟨[], [0], rfl, trivial, ⟨VW.bool (fit_1 (by omega)), trivial⟩, ⟨bw_mbx, trivial⟩⟩; done) | (exact ⟨[], [0], rfl, trivial, ⟨VW.bool ((by rw [← fit_4 (by omega) he hc']; exact (decide_eq_false (by omega)).symm)), trivial⟩, ⟨bw_mbx, trivial⟩⟩; done) | (exact ⟨[], [0], rfl, trivial, ⟨VW.bool ((by rw [← fit_4 (by omega) he hc']; exact decide_eq_decide.2 (by omega))), trivial⟩, ⟨bw_mbx, trivial⟩⟩; done) | (exact ⟨[], [0], rfl, trivial, ⟨VW.bool ((by rw [← fit_4 (by omega) he hc']; exact (decide_eq_true (by omega)).symm)), trivial⟩, ⟨bw_mbx, trivial⟩⟩; done) | (first | omega | contradiction | (simp_all; done); done)
                        · have g22 := of_decide_eq_false h22
                          try simp only [List.length_map] at g22
                          first | (exact ⟨[], [0], rfl, trivial, ⟨VW.bool (fit_1 (by omega)), trivial⟩, ⟨bw_mbx, trivial⟩⟩; done) | (exact ⟨[], [0], rfl, trivial, ⟨VW.bool ((by rw [← fit_4 (by omega) he hc']; exact (decide_eq_false (by omega)).symm)), trivial⟩, ⟨bw_mbx, trivial⟩⟩; done) | (exact ⟨[], [0], rfl, trivial, ⟨VW.bool ((by rw [← fit_4 (by omega) he hc']; exact decide_eq_decide.2 (by omega))), trivial⟩, ⟨bw_mbx, trivial⟩⟩; done) | (exact ⟨[], [0], rfl, trivial, ⟨VW.bool ((by rw [← fit_4 (by omega) he hc']; exact (decide_eq_true (by omega)).symm)), trivial⟩, ⟨bw_mbx, trivial⟩⟩; done) | (first | omega | contradiction | (simp_all; done); done)
                      · have g21 := of_decide_eq_false h21
                        try simp only [List.length_map] at g21
                        first | (exact ⟨[], [0], rfl, trivial, ⟨VW.bool (fit_1 (by omega)), trivial⟩, ⟨bw_mbx, trivial⟩⟩; done) | (exact ⟨[], [0], rfl, trivial, ⟨VW.bool ((by rw [← fit_4 (by omega) he hc']; exact (decide_eq_false (by omega)).symm)), trivial⟩, ⟨bw_mbx, trivial⟩⟩; done) | (exact ⟨[], [0], rfl, trivial, ⟨VW.bool ((by rw [← fit_4 (by omega) he hc']; exact decide_eq_decide.2 (by omega))), trivial⟩, ⟨bw_mbx, trivial⟩⟩; done) | (exact ⟨[], [0], rfl, trivial, ⟨VW.bool ((by rw [← fit_4 (by omega) he hc']; exact (decide_eq_true (by omega)).symm)), trivial⟩, ⟨bw_mbx, trivial⟩⟩; done) | (first | omega | contradiction | (simp_all; done); done)
                    · have g20 := of_decide_eq_false h20
                      try simp only [List.length_map] at g20
                      first | (exact ⟨[], [0], rfl, trivial, ⟨VW.bool (fit_1 (by omega)), trivial⟩, ⟨bw_mbx, trivial⟩⟩; done) | (exact ⟨[], [0], rfl, trivial, ⟨VW.bool ((by rw [← fit_4 (by omega) he hc']; exact (decide_eq_false (by omega)).symm)), trivial⟩, ⟨bw_mbx, trivial⟩⟩; done) | (exact ⟨[], [0], rfl, trivial, ⟨VW.bool ((by rw [← fit_4 (by omega) he hc']; exact decide_eq_decide.2 (by omega))), trivial⟩, ⟨bw_mbx, trivial⟩⟩; done) | (exact ⟨[], [0], rfl, trivial, ⟨VW.bool ((by rw [← fit_4 (by omega) he hc']; exact (decide_eq_true (by omega)).symm)), trivial⟩, ⟨bw_mbx, trivial⟩⟩; done) | (first | omega | contradiction | (simp_all; done); done)
                  · have g19 := of_decide_eq_false h19
                    try simp only [List.length_map] at g19
                    first | (exact ⟨[], [0], rfl, trivial, ⟨VW.bool (fit_1 (by omega)), trivial⟩, ⟨bw_mbx, trivial⟩⟩; done) | (exact ⟨[], [0], rfl, trivial, ⟨VW.bool ((by rw [← fit_4 (by omega) he hc']; exact (decide_eq_false (by omega)).symm)), trivial⟩, ⟨bw_mbx, trivial⟩⟩; done) | (exact ⟨[], [0], rfl, trivial, ⟨VW.bool ((by rw [← fit_4 (by omega) he hc']; exact decide_eq_decide.2 (by omega))), trivial⟩, ⟨bw_mbx, trivial⟩⟩; done) | (exact ⟨[], [0], rfl, trivial, ⟨VW.bool ((by rw [← fit_4 (by omega) he hc']; exact (decide_eq_true (by omega)).symm)), trivial⟩, ⟨bw_mbx, trivial⟩⟩; done) | (first | omega | contradiction | (simp_all; done); done)
    · obtain ⟨j, j1, j2, j3⟩ := first_false hc'
      refine wfun_ok env hC fd37 (t37c iso shr l m s x j) ?_ hhS
      simp only [Holds]
      refine ⟨fun h0 => ?_, fun h0 => ?_⟩
      · have g0 := bne_iff_ne.1 h0
        try simp only [List.length_map] at g0
        refine ⟨fun h1 => ?_, fun h1 => ?_⟩
        · have g1 := bne_iff_ne.1 h1
          try simp only [List.length_map] at g1
          first | (exact ⟨[], [0], rfl, trivial, ⟨VW.bool (fit_1 (by omega)), trivial⟩, ⟨bw_mbx, trivial⟩⟩; done) | (exact ⟨[], [0], rfl, trivial, ⟨VW.bool (fit_3 j1 j2), trivial⟩, ⟨bw_mbx, trivial⟩⟩; done) | (first | omega | contradiction | (simp_all; done); done)
        · have g1 := bne_eq_false_iff_eq.1 h1
          try simp only [List.length_map] at g1
          refine ⟨fun h2 => ?_, fun h2 => ?_⟩
          · have g2 := of_decide_eq_true h2
            try simp only [List.length_map] at g2
            first | (exact ⟨[], [0], rfl, trivial, ⟨VW.bool (fit_1 (by omega)), trivial⟩, ⟨bw_mbx, trivial⟩⟩; done) | (exact ⟨[], [0], rfl, trivial, ⟨VW.bool (fit_3 j1 j2), trivial⟩, ⟨bw_mbx, trivial⟩⟩; done) | (first | omega | contradiction | (simp_all; done); done)
          · have g2 := of_decide_eq_false h2
            try simp only [List.length_map] at g2
            refine ⟨fun h3 => ?_, fun h3 => ?_⟩
            · have g3 := of_decide_eq_true h3
              try simp only [List.length_map] at g3
              first | (exact ⟨[], [0], rfl, trivial, ⟨VW.bool (fit_1 (by omega)), trivial⟩, ⟨bw_mbx, trivial⟩⟩; done) | (exact ⟨[], [0], rfl, trivial, ⟨VW.bool (fit_3 j1 j2), trivial⟩, ⟨bw_mbx, trivial⟩⟩; done) | (first | omega | contradiction | (simp_all; done); done)
            · have g3 := of_decide_eq_false h3
              try simp only [List.length_map] at g3
              refine ⟨fun h4 => ?_, fun h4 => ?_⟩
              · have g4 := bne_iff_ne.1 h4
                try simp only [List.length_map] at g4
                first | (exact ⟨[], [0], rfl, trivial, ⟨VW.bool (fit_1 (by omega)), trivial⟩, ⟨bw_mbx, trivial⟩⟩; done) | (exact ⟨[], [0], rfl, trivial, ⟨VW.bool (fit_3 j1 j2), trivial⟩, ⟨bw_mbx, trivial⟩⟩; done) | (first | omega | contradiction | (simp_all; done); done)
              · have g4 := bne_eq_false_iff_eq.1 h4
                try simp only [List.length_map] at g4
                refine ⟨fun h5 => ?_, fun h5 => ?_⟩
                · have g5 := bne_iff_ne.1 h5
                  try simp only [List.length_map] at g5
                  first | (exact ⟨[], [0], rfl, trivial, ⟨VW.bool (fit_1 (by omega)), trivial⟩, ⟨bw_mbx, trivial⟩⟩; done) | (exact ⟨[], [0], rfl, trivial, ⟨VW.bool (fit_3 j1 j2), trivial⟩, ⟨bw_mbx, trivial⟩⟩; done) | (first | omega | contradiction | (simp_all; done); done)
                · have g5 := bne_eq_false_iff_eq.1 h5
                  try simp only [List.length_map] at g5
                  refine ⟨fun h6 => ?_, fun h6 => ?_⟩
                  · have g6 := beq_iff_eq.1 h6
                    try simp only [List.length_map] at g6
                    first | (exact ⟨[], [0], rfl, trivial, ⟨VW.bool (fit_1 (by omega)), trivial⟩, ⟨bw_mbx, trivial⟩⟩; done) | (exact ⟨[], [0], rfl, trivial, ⟨VW.bool (fit_3 j1 j2), trivial⟩, ⟨bw_mbx, trivial⟩⟩; done) | (first | omega | contradiction | (simp_all; done); done)
                  · have g6 := beq_eq_false_iff_ne.1 h6
                    try simp only [List.length_map] at g6
                    refine ⟨?_, ?_⟩
                    · first | (exact px26 (by omega); done) | (exact px27 (by omega); done) | (exact px28 (by omega); done) | (exact sl27 (by omega); done) | (first | omega | contradiction | (simp_all; done); done)
                    refine ⟨?_, ?_⟩
                    · first | (exact ⟨trivial, (by first | trivial | simp [frzOk]), ⟨(by first | (exact VW.int (wsucc (by omega)); done) | (exact VW.int rfl; done) | (exact VW.lst rfl rfl; done) | (exact VW.cptr rfl; done) | (exact VW.fn .nil; done) | (exact VW.bool rfl; done) | (exact VW.ptr rfl rfl; done) | (exact VW.sl rfl rfl rfl rfl; done) | (exact VW.no rfl; done) | (exact VW.eo rfl; done) | (exact VW.nils; done) | (exact VW.emp; done) | (exact VW.str rfl; done) | (exact VW.int (by first | (simp; done) | fail); done)), (by first | (exact VW.int (wsucc (by omega)); done) | (exact VW.int rfl; done) | (exact VW.lst rfl rfl; done) | (exact VW.cptr rfl; done) | (exact VW.fn .nil; done) | (exact VW.bool rfl; done) | (exact VW.ptr rfl rfl; done) | (exact VW.sl rfl rfl rfl rfl; done) | (exact VW.no rfl; done) | (exact VW.eo rfl; done) | (exact VW.nils; done) | (exact VW.emp; done) | (exact VW.str rfl; done) | (exact VW.int (by first | (simp; done) | fail); done)), (by first | (exact VW.int (wsucc (by omega)); done) | (exact VW.int rfl; done) | (exact VW.lst rfl rfl; done) | (exact VW.cptr rfl; done) | (exact VW.fn .nil; done) | (exact VW.bool rfl; done) | (exact VW.ptr rfl rfl; done) | (exact VW.sl rfl rfl rfl rfl; done) | (exact VW.no rfl; done) | (exact VW.eo rfl; done) | (exact VW.nils; done) | (exact VW.emp; done) | (exact VW.str rfl; done) | (exact VW.int (by first | (simp; done) | fail); done)), (by first | (exact VW.int (wsucc (by omega)); done) | (exact VW.int rfl; done) | (exact VW.lst rfl rfl; done) | (exact VW.cptr rfl; done) | (exact VW.fn .nil; done) | (exact VW.bool rfl; done) | (exact VW.ptr rfl rfl; done) | (exact VW.sl rfl rfl rfl rfl; done) | (exact VW.no rfl; done) | (exact VW.eo rfl; done) | (exact VW.nils; done) | (exact VW.emp; done) | (exact VW.str rfl; done) | (exact VW.int (by first | (simp; done) | fail); done)), (by first | (exact VW.int (wsucc (by omega)); done) | (exact VW.int rfl; done) | (exact VW.lst rfl rfl; done) | (exact VW.cptr rfl; done) | (exact VW.fn .nil; done) | (exact VW.bool rfl; done) | (exact VW.ptr rfl rfl; done) | (exact VW.sl rfl rfl rfl rfl; done) | (exact VW.no rfl; done) | (exact VW.eo rfl; done) | (exact VW.nils; done) | (exact VW.emp; done) | (exact VW.str rfl; done) | (exact VW.int (by first | (simp; done) | fail); done)), trivial⟩, ⟨(by first | (exact bw_mbx; done) | (exact bw_img; done) | (exact BW.tik rfl (by first | (simp; done) | omega); done)), (by first | (exact bw_mbx; done) | (exact bw_img; done) | (exact BW.tik rfl (by first | (simp; done) | omega); done)), trivial⟩⟩; done) | (first | omega | contradiction | (simp_all; done); done)
                    refine ⟨?_, ?_⟩
                    · first | (exact (lp37s iso shr hC l m s x hs).1 he; done) | (first | omega | contradiction | (simp_all; done); done)
                    refine ⟨?_, ?_⟩
                    · first | (exact ⟨trivial, (by first | trivial | simp [frzOk]), ⟨(by first | (exact VW.int (wsucc (by omega)); done) | (exact VW.int rfl; done) | (exact VW.lst rfl rfl; done) | (exact VW.cptr rfl; done) | (exact VW.fn .nil; done) | (exact VW.bool rfl; done) | (exact VW.ptr rfl rfl; done) | (exact VW.sl rfl rfl rfl rfl; done) | (exact VW.no rfl; done) | (exact VW.eo rfl; done) | (exact VW.nils; done) | (exact VW.emp; done) | (exact VW.str rfl; done) | (exact VW.int (by first | (simp; done) | fail); done)), (by first | (exact VW.int (wsucc (by omega)); done) | (exact VW.int rfl; done) | (exact VW.lst rfl rfl; done) | (exact VW.cptr rfl; done) | (exact VW.fn .nil; done) | (exact VW.bool rfl; done) | (exact VW.ptr rfl rfl; done) | (exact VW.sl rfl rfl rfl rfl; done) | (exact VW.no rfl; done) | (exact VW.eo rfl; done) | (exact VW.nils; done) | (exact VW.emp; done) | (exact VW.str rfl; done) | (exact VW.int (by first | (simp; done) | fail); done)), (by first | (exact VW.int (wsucc (by omega)); done) | (exact VW.int rfl; done) | (exact VW.lst rfl rfl; done) | (exact VW.cptr rfl; done) | (exact VW.fn .nil; done) | (exact VW.bool rfl; done) | (exact VW.ptr rfl rfl; done) | (exact VW.sl rfl rfl rfl rfl; done) | (exact VW.no rfl; done) | (exact VW.eo rfl; done) | (exact VW.nils; done) | (exact VW.emp; done) | (exact VW.str rfl; done) | (exact VW.int (by first | (simp; done) | fail); done)), (by first | (exact VW.int (wsucc (by omega)); done) | (exact VW.int rfl; done) | (exact VW.lst rfl rfl; done) | (exact VW.cptr rfl; done) | (exact VW.fn .nil; done) | (exact VW.bool rfl; done) | (exact VW.ptr rfl rfl; done) | (exact VW.sl rfl rfl rfl rfl; done) | (exact VW.no rfl; done) | (exact VW.eo rfl; done) | (exact VW.nils; done) | (exact VW.emp; done) | (exact VW.str rfl; done) | (exact VW.int (by first | (simp; done) | fail); done)), (by first | (exact VW.int (wsucc (by omega)); done) | (exact VW.int rfl; done) | (exact VW.lst rfl rfl; done) | (exact VW.cptr rfl; done) | (exact VW.fn .nil; done) | (exact VW.bool rfl; done) | (exact VW.ptr rfl rfl; done) | (exact VW.sl rfl rfl rfl rfl; done) | (exact VW.no rfl; done) | (exact VW.eo rfl; done) | (exact VW.nils; done) | (exact VW.emp; done) | (exact VW.str rfl; done) | (exact VW.int (by first | (simp; done) | fail); done)), trivial⟩, ⟨(by first | (exact bw_mbx; done) | (exact bw_img; done) | (exact BW.tik rfl (by first | (simp; done) | omega); done)), (by first | (exact bw_mbx; done) | (exact bw_img; done) | (exact BW.tik rfl (by first | (simp; done) | omega); done)), trivial⟩⟩; done) | (first | omega | contradiction | (simp_all; done); done)
                    refine ⟨?_, ?_⟩
                    · first | (exact (lp37c iso shr hC l m s x hs).2 j j1 j2 j3; done) | (first | omega | contradiction | (simp_all; done); done)
                    first | (exact ⟨[], [0], rfl, trivial, ⟨VW.bool (fit_1 (by omega)), trivial⟩, ⟨bw_mbx, trivial⟩⟩; done) | (exact ⟨[], [0], rfl, trivial, ⟨VW.bool (fit_3 j1 j2), trivial⟩, ⟨bw_mbx, trivial⟩⟩; done) | (first | omega | contradiction | (simp_all; done); done)
      · have g0 := bne_eq_false_iff_eq.1 h0
        try simp only [List.length_map] at g0
        refine ⟨fun h7 => ?_, fun h7 => ?_⟩
        · have g7 := of_decide_eq_true h7
          try simp only [List.length_map] at g7
          first | (exact ⟨[], [0], rfl, trivial, ⟨VW.bool (fit_1 (by omega)), trivial⟩, ⟨bw_mbx, trivial⟩⟩; done) | (exact ⟨[], [0], rfl, trivial, ⟨VW.bool (fit_3 j1 j2), trivial⟩, ⟨bw_mbx, trivial⟩⟩; done) | (first | omega | contradiction | (simp_all; done); done)
        · have g7 := of_decide_eq_false h7
          try simp only [List.length_map] at g7
          refine ⟨fun h8 => ?_, fun h8 => ?_⟩
          · have g8 := of_decide_eq_true h8
            try simp only [List.length_map] at g8
            first | (exact ⟨[], [0], rfl, trivial, ⟨VW.bool (fit_1 (by omega)), trivial⟩, ⟨bw_mbx, trivial⟩⟩; done) | (exact ⟨[], [0], rfl, trivial, ⟨VW.bool (fit_3 j1 j2), trivial⟩, ⟨bw_mbx, trivial⟩⟩; done) | (first | omega | contradiction | (simp_all; done); done)
          · have g8 := of_decide_eq_false h8
            try simp only [List.length_map] at g8
            refine ⟨fun h9 => ?_, fun h9 => ?_⟩
            · have g9 := bne_iff_ne.1 h9
              try simp only [List.length_map] at g9
              first | (exact ⟨[], [0], rfl, trivial, ⟨VW.bool (fit_1 (by omega)), trivial⟩, ⟨bw_mbx, trivial⟩⟩; done) | (exact ⟨[], [0], rfl, trivial, ⟨VW.bool (fit_3 j1 j2), trivial⟩, ⟨bw_mbx, trivial⟩⟩; done) | (first | omega | contradiction | (simp_all; done); done)
            · have g9 := bne_eq_false_iff_eq.1 h9
              try simp only [List.length_map] at g9
              refine ⟨fun h10 => ?_, fun h10 => ?_⟩
              · have g10 := bne_iff_ne.1 h10
                try simp only [List.length_map] at g10
                first | (exact ⟨[], [0], rfl, trivial, ⟨VW.bool (fit_1 (by omega)), trivial⟩, ⟨bw_mbx, trivial⟩⟩; done) | (exact ⟨[], [0], rfl, trivial, ⟨VW.bool (fit_3 j1 j2), trivial⟩, ⟨bw_mbx, trivial⟩⟩; done) | (first | omega | contradiction | (simp_all; done); done)
              · have g10 := bne_eq_false_iff_eq.1 h10
                try simp only [List.length_map] at g10
                refine ⟨fun h11 => ?_, fun h11 => ?_⟩
                · have g11 := beq_iff_eq.1 h11
                  try simp only [List.length_map] at g11
                  first | (exact ⟨[], [0], rfl, trivial, ⟨VW.bool (fit_1 (by omega)), trivial⟩, ⟨bw_mbx, trivial⟩⟩; done) | (exact ⟨[], [0], rfl, trivial, ⟨VW.bool (fit_3 j1 j2), trivial⟩, ⟨bw_mbx, trivial⟩⟩; done) | (first | omega | contradiction | (simp_all; done); done)
                · have g11 := beq_eq_false_iff_ne.1 h11
                  try simp only [List.length_map] at g11
                  refine ⟨?_, ?_⟩
                  · first | (exact px26 (by omega); done) | (exact px27 (by omega); done) | (exact px28 (by omega); done) | (exact sl27 (by omega); done) | (first | omega | contradiction | (simp_all; done); done)
                  refine ⟨?_, ?_⟩
                  · first | (exact ⟨trivial, (by first | trivial | simp [frzOk]), ⟨(by first | (exact VW.int (wsucc (by omega)); done) | (exact VW.int rfl; done) | (exact VW.lst rfl rfl; done) | (exact VW.cptr rfl; done) | (exact VW.fn .nil; done) | (exact VW.bool rfl; done) | (exact VW.ptr rfl rfl; done) | (exact VW.sl rfl rfl rfl rfl; done) | (exact VW.no rfl; done) | (exact VW.eo rfl; done) | (exact VW.nils; done) | (exact VW.emp; done) | (exact VW.str rfl; done) | (exact VW.int (by first | (simp; done) | fail); done)), (by first | (exact VW.int (wsucc (by omega)); done) | (exact VW.int rfl; done) | (exact VW.lst rfl rfl; done) | (exact VW.cptr rfl; done) | (exact VW.fn .nil; done) | (exact VW.bool rfl; done) | (exact VW.ptr rfl rfl; done) | (exact VW.sl rfl rfl rfl rfl; done) | (exact VW.no rfl; done) | (exact VW.eo rfl; done) | (exact VW.nils; done) | (exact VW.emp; done) | (exact VW.str rfl; done) | (exact VW.int (by first | (simp; done) | fail); done)), (by first | (exact VW.int (wsucc (by omega)); done) | (exact VW.int rfl; done) | (exact VW.lst rfl rfl; done) | (exact VW.cptr rfl; done) | (exact VW.fn .nil; done) | (exact VW.bool rfl; done) | (exact VW.ptr rfl rfl; done) | (exact VW.sl rfl rfl rfl rfl; done) | (exact VW.no rfl; done) | (exact VW.eo rfl; done) | (exact VW.nils; done) | (exact VW.emp; done) | (exact VW.str rfl; done) | (exact VW.int (by first | (simp; done) | fail); done)), (by first | (exact VW.int (wsucc (by omega)); done) | (exact VW.int rfl; done) | (exact VW.lst rfl rfl; done) | (exact VW.cptr rfl; done) | (exact VW.fn .nil; done) | (exact VW.bool rfl; done) | (exact VW.ptr rfl rfl; done) | (exact VW.sl rfl rfl rfl rfl; done) | (exact VW.no rfl; done) | (exact VW.eo rfl; done) | (exact VW.nils; done) | (exact VW.emp; done) | (exact VW.str rfl; done) | (exact VW.int (by first | (simp; done) | fail); done)), (by first | (exact VW.int (wsucc (by omega)); done) | (exact VW.int rfl; done) | (exact VW.lst rfl rfl; done) | (exact VW.cptr rfl; done) | (exact VW.fn .nil; done) | (exact VW.bool rfl; done) | (exact VW.ptr rfl rfl; done) | (exact VW.sl rfl rfl rfl rfl; done) | (exact VW.no rfl; done) | (exact VW.eo rfl; done) | (exact VW.nils; done) | (exact VW.emp; done) | (exact VW.str rfl; done) | (exact VW.int (by first | (simp; done) | fail); done)), trivial⟩, ⟨(by first | (exact bw_mbx; done) | (exact bw_img; done) | (exact BW.tik rfl (by first | (simp; done) | omega); done)), (by first | (exact bw_mbx; done) | (exact bw_img; done) | (exact BW.tik rfl (by first | (simp; done) | omega); done)), trivial⟩⟩; done) | (first | omega | contradiction | (simp_all; done); done)
                  refine ⟨?_, ?_⟩
                  · first | (exact (lp37s iso shr hC l m s x hs).1 he; done) | (first | omega | contradiction | (simp_all; done); done)
                  refine ⟨?_, ?_⟩
                  · first | (exact ⟨trivial, (by first | trivial | simp [frzOk]), ⟨(by first | (exact VW.int (wsucc (by omega)); done) | (exact VW.int rfl; done) | (exact VW.lst rfl rfl; done) | (exact VW.cptr rfl; done) | (exact VW.fn .nil; done) | (exact VW.bool rfl; done) | (exact VW.ptr rfl rfl; done) | (exact VW.sl rfl rfl rfl rfl; done) | (exact VW.no rfl; done) | (exact VW.eo rfl; done) | (exact VW.nils; done) | (exact VW.emp; done) | (exact VW.str rfl; done) | (exact VW.int (by first | (simp; done) | fail); done)), (by first | (exact VW.int (wsucc (by omega)); done) | (exact VW.int rfl; done) | (exact VW.lst rfl rfl; done) | (exact VW.cptr rfl; done) | (exact VW.fn .nil; done) | (exact VW.bool rfl; done) | (exact VW.ptr rfl rfl; done) | (exact VW.sl rfl rfl rfl rfl; done) | (exact VW.no rfl; done) | (exact VW.eo rfl; done) | (exact VW.nils; done) | (exact VW.emp; done) | (exact VW.str rfl; done) | (exact VW.int (by first | (simp; done) | fail); done)), (by first | (exact VW.int (wsucc (by omega)); done) | (exact VW.int rfl; done) | (exact VW.lst rfl rfl; done) | (exact VW.cptr rfl; done) | (exact VW.fn .nil; done) | (exact VW.bool rfl; done) | (exact VW.ptr rfl rfl; done) | (exact VW.sl rfl rfl rfl rfl; done) | (exact VW.no rfl; done) | (exact VW.eo rfl; done) | (exact VW.nils; done) | (exact VW.emp; done) | (exact VW.str rfl; done) | (exact VW.int (by first | (simp; done) | fail); done)), (by first | (exact VW.int (wsucc (by omega)); done) | (exact VW.int rfl; done) | (exact VW.lst rfl rfl; done) | (exact VW.cptr rfl; done) | (exact VW.fn .nil; done) | (exact VW.bool rfl; done) | (exact VW.ptr rfl rfl; done) | (exact VW.sl rfl rfl rfl rfl; done) | (exact VW.no rfl; done) | (exact VW.eo rfl; done) | (exact VW.nils; done) | (exact VW.emp; done) | (exact VW.str rfl; done) | (exact VW.int (by first | (simp; done) | fail); done)), (by first | (exact VW.int (wsucc (by omega)); done) | (exact VW.int rfl; done) | (exact VW.lst rfl rfl; done) | (exact VW.cptr rfl; done) | (exact VW.fn .nil; done) | (exact VW.bool rfl; done) | (exact VW.ptr rfl rfl; done) | (exact VW.sl rfl rfl rfl rfl; done) | (exact VW.no rfl; done) | (exact VW.eo rfl; done) | (exact VW.nils; done) | (exact VW.emp; done) | (exact VW.str rfl; done) | (exact VW.int (by first | (simp; done) | fail); done)), trivial⟩, ⟨(by first | (exact bw_mbx; done) | (exact bw_img; done) | (exact BW.tik rfl (by first | (simp; done) | omega); done)), (by first | (exact bw_mbx; done) | (exact bw_img; done) | (exact BW.tik rfl (by first | (simp; done) | omega); done)), trivial⟩⟩; done) | (first | omega | contradiction | (simp_all; done); done)
                  refine ⟨?_, ?_⟩
                  · first | (exact (lp37c iso shr hC l m s x hs).2 j j1 j2 j3; done) | (first | omega | contradiction | (simp_all; done); done)
                  first | (exact ⟨[], [0], rfl, trivial, ⟨VW.bool (fit_1 (by omega)), trivial⟩, ⟨bw_mbx, trivial⟩⟩; done) | (exact ⟨[], [0], rfl, trivial, ⟨VW.bool (fit_3 j1 j2), trivial⟩, ⟨bw_mbx, trivial⟩⟩; done) | (first | omega | contradiction | (simp_all; done); done)
  · obtain ⟨j, j1, j2, j3⟩ := first_false he
    refine wfun_ok env hC fd37 (t37b iso shr l m s x j) ?_ hhS
    simp only [Holds]
    refine ⟨fun h0 => ?_, fun h0 => ?_⟩
    · have g0 := bne_iff_ne.1 h0
      try simp only [List.length_map] at g0
      refine ⟨fun h1 => ?_, fun h1 => ?_⟩
      · have g1 := bne_iff_ne.1 h1
        try simp only [List.length_map] at g1
        first | (exact ⟨[], [0], rfl, trivial, ⟨VW.bool (fit_1 (by omega)), trivial⟩, ⟨bw_mbx, trivial⟩⟩; done) | (exact ⟨[], [0], rfl, trivial, ⟨VW.bool (fit_2 j1 j2), trivial⟩, ⟨bw_mbx, trivial⟩⟩; done) | (first | omega | contradiction | (simp_all; done); done)
      · have g1 := bne_eq_false_iff_eq.1 h1
        try simp only [List.length_map] at g1
        refine ⟨fun h2 => ?_, fun h2 => ?_⟩
        · have g2 := of_decide_eq_true h2
          try simp only [List.length_map] at g2
          first | (exact ⟨[], [0], rfl, trivial, ⟨VW.bool (fit_1 (by omega)), trivial⟩, ⟨bw_mbx, trivial⟩⟩; done) | (exact ⟨[], [0], rfl, trivial, ⟨VW.bool (fit_2 j1 j2), trivial⟩, ⟨bw_mbx, trivial⟩⟩; done) | (first | omega | contradiction | (simp_all; done); done)
        · have g2 := of_decide_eq_false h2
          try simp only [List.length_map] at g2
          refine ⟨fun h3 => ?_, fun h3 => ?_⟩
          · have g3 := of_decide_eq_true h3
            try simp only [List.length_map] at g3
            first | (exact ⟨[], [0], rfl, trivial, ⟨VW.bool (fit_1 (by omega)), trivial⟩, ⟨bw_mbx, trivial⟩⟩; done) | (exact ⟨[], [0], rfl, trivial, ⟨VW.bool (fit_2 j1 j2), trivial⟩, ⟨bw_mbx, trivial⟩⟩; done) | (first | omega | contradiction | (simp_all; done); done)
          · have g3 := of_decide_eq_false h3
            try simp only [List.length_map] at g3
            refine ⟨fun h4 => ?_, fun h4 => ?_⟩
            · have g4 := bne_iff_ne.1 h4
              try simp only [List.length_map] at g4
              first | (exact ⟨[], [0], rfl, trivial, ⟨VW.bool (fit_1 (by omega)), trivial⟩, ⟨bw_mbx, trivial⟩⟩; done) | (exact ⟨[], [0], rfl, trivial, ⟨VW.bool (fit_2 j1 j2), trivial⟩, ⟨bw_mbx, trivial⟩⟩; done) | (first | omega | contradiction | (simp_all; done); done)
            · have g4 := bne_eq_false_iff_eq.1 h4
              try simp only [List.length_map] at g4
              refine ⟨fun h5 => ?_, fun h5 => ?_⟩
              · have g5 := bne_iff_ne.1 h5
                try simp only [List.length_map] at g5
                first | (exact ⟨[], [0], rfl, trivial, ⟨VW.bool (fit_1 (by omega)), trivial⟩, ⟨bw_mbx, trivial⟩⟩; done) | (exact ⟨[], [0], rfl, trivial, ⟨VW.bool (fit_2 j1 j2), trivial⟩, ⟨bw_mbx, trivial⟩⟩; done) | (first | omega | contradiction | (simp_all; done); done)
              · have g5 := bne_eq_false_iff_eq.1 h5
                try simp only [List.length_map] at g5
                refine ⟨fun h6 => ?_, fun h6 => ?_⟩
                · have g6 := beq_iff_eq.1 h6
                  try simp only [List.length_map] at g6
                  first | (exact ⟨[], [0], rfl, trivial, ⟨VW.bool (fit_1 (by omega)), trivial⟩, ⟨bw_mbx, trivial⟩⟩; done) | (exact ⟨[], [0], rfl, trivial, ⟨VW.bool (fit_2 j1 j2), trivial⟩, ⟨bw_mbx, trivial⟩⟩; done) | (first | omega | contradiction | (simp_all; done); done)
                · have g6 := beq_eq_false_iff_ne.1 h6
                  try simp only [List.length_map] at g6
                  refine ⟨?_, ?_⟩
                  · first | (exact px26 (by omega); done) | (exact px27 (by omega); done) | (exact px28 (by omega); done) | (exact sl27 (by omega); done) | (first | omega | contradiction | (simp_all; done); done)
                  refine ⟨?_, ?_⟩
                  · first | (exact ⟨trivial, (by first | trivial | simp [frzOk]), ⟨(by first | (exact VW.int (wsucc (by omega)); done) | (exact VW.int rfl; done) | (exact VW.lst rfl rfl; done) | (exact VW.cptr rfl; done) | (exact VW.fn .nil; done) | (exact VW.bool rfl; done) | (exact VW.ptr rfl rfl; done) | (exact VW.sl rfl rfl rfl rfl; done) | (exact VW.no rfl; done) | (exact VW.eo rfl; done) | (exact VW.nils; done) | (exact VW.emp; done) | (exact VW.str rfl; done) | (exact VW.int (by first | (simp; done) | fail); done)), (by first | (exact VW.int (wsucc (by omega)); done) | (exact VW.int rfl; done) | (exact VW.lst rfl rfl; done) | (exact VW.cptr rfl; done) | (exact VW.fn .nil; done) | (exact VW.bool rfl; done) | (exact VW.ptr rfl rfl; done) | (exact VW.sl rfl rfl rfl rfl; done) | (exact VW.no rfl; done) | (exact VW.eo rfl; done) | (exact VW.nils; done) | (exact VW.emp; done) | (exact VW.str rfl; done) | (exact VW.int (by first | (simp; done) | fail); done)), (by first | (exact VW.int (wsucc (by omega)); done) | (exact VW.int rfl; done) | (exact VW.lst rfl rfl; done) | (exact VW.cptr rfl; done) | (exact VW.fn .nil; done) | (exact VW.bool rfl; done) | (exact VW.ptr rfl rfl; done) | (exact VW.sl rfl rfl rfl rfl; done) | (exact VW.no rfl; done) | (exact VW.eo rfl; done) | (exact VW.nils; done) | (exact VW.emp; done) | (exact VW.str rfl; done) | (exact VW.int (by first | (simp; done) | fail); done)), (by first | (exact VW.int (wsucc (by omega)); done) | (exact VW.int rfl; done) | (exact VW.lst rfl rfl; done) | (exact VW.cptr rfl; done) | (exact VW.fn .nil; done) | (exact VW.bool rfl; done) | (exact VW.ptr rfl rfl; done) | (exact VW.sl rfl rfl rfl rfl; done) | (exact VW.no rfl; done) | (exact VW.eo rfl; done) | (exact VW.nils; done) | (exact VW.emp; done) | (exact VW.str rfl; done) | (exact VW.int (by first | (simp; done) | fail); done)), (by first | (exact VW.int (wsucc (by omega)); done) | (exact VW.int rfl; done) | (exact VW.lst rfl rfl; done) | (exact VW.cptr rfl; done) | (exact VW.fn .nil; done) | (exact VW.bool rfl; done) | (exact VW.ptr rfl rfl; done) | (exact VW.sl rfl rfl rfl rfl; done) | (exact VW.no rfl; done) | (exact VW.eo rfl; done) | (exact VW.nils; done) | (exact VW.emp; done) | (exact VW.str rfl; done) | (exact VW.int (by first | (simp; done) | fail); done)), trivial⟩, ⟨(by first | (exact bw_mbx; done) | (exact bw_img; done) | (exact BW.tik rfl (by first | (simp; done) | omega); done)), (by first | (exact bw_mbx; done) | (exact bw_img; done) | (exact BW.tik rfl (by first | (simp; done) | omega); done)), trivial⟩⟩; done) | (first | omega | contradiction | (simp_all; done); done)
                  refine ⟨?_, ?_⟩
                  · first | (exact (lp37s iso shr hC l m s x hs).2 j j1 j2 j3; done) | (first | omega | contradiction | (simp_all; done); done)
                  first | (exact ⟨[], [0], rfl, trivial, ⟨VW.bool (fit_1 (by omega)), trivial⟩, ⟨bw_mbx, trivial⟩⟩; done) | (exact ⟨[], [0], rfl, trivial, ⟨VW.bool (fit_2 j1 j2), trivial⟩, ⟨bw_mbx, trivial⟩⟩; done) | (first | omega | contradiction | (simp_all; done); done)
    · have g0 := bne_eq_false_iff_eq.1 h0
      try simp only [List.length_map] at g0
      refine ⟨fun h7 => ?_, fun h7 => ?_⟩
      · have g7 := of_decide_eq_true h7
        try simp only [List.length_map] at g7
        first | (exact ⟨[], [0], rfl, trivial, ⟨VW.bool (fit_1 (by omega)), trivial⟩, ⟨bw_mbx, trivial⟩⟩; done) | (exact ⟨[], [0], rfl, trivial, ⟨VW.bool (fit_2 j1 j2), trivial⟩, ⟨bw_mbx, trivial⟩⟩; done) | (first | omega | contradiction | (simp_all; done); done)
      · have g7 := of_decide_eq_false h7
        try simp only [List.length_map] at g7
        refine ⟨fun h8 => ?_, fun h8 => ?_⟩
        · have g8 := of_decide_eq_true h8
          try simp only [List.length_map] at g8
          first | (exact ⟨[], [0], rfl, trivial, ⟨VW.bool (fit_1 (by omega)), trivial⟩, ⟨bw_mbx, trivial⟩⟩; done) | (exact ⟨[], [0], rfl, trivial, ⟨VW.bool (fit_2 j1 j2), trivial⟩, ⟨bw_mbx, trivial⟩⟩; done) | (first | omega | contradiction | (simp_all; done); done)
        · have g8 := of_decide_eq_false h8
          try simp only [List.length_map] at g8
          refine ⟨fun h9 => ?_, fun h9 => ?_⟩
          · have g9 := bne_iff_ne.1 h9
            try simp only [List.length_map] at g9
            first | (exact ⟨[], [0], rfl, trivial, ⟨VW.bool (fit_1 (by omega)), trivial⟩, ⟨bw_mbx, trivial⟩⟩; done) | (exact ⟨[], [0], rfl, trivial, ⟨VW.bool (fit_2 j1 j2), trivial⟩, ⟨bw_mbx, trivial⟩⟩; done) | (first | omega | contradiction | (simp_all; done); done)
          · have g9 := bne_eq_false_iff_eq.1 h9
            try simp only [List.length_map] at g9
            refine ⟨fun h10 => ?_, fun h10 => ?_⟩
            · have g10 := bne_iff_ne.1 h10
              try simp only [List.length_map] at g10
              first | (exact ⟨[], [0], rfl, trivial, ⟨VW.bool (fit_1 (by omega)), trivial⟩, ⟨bw_mbx, trivial⟩⟩; done) | (exact ⟨[], [0], rfl, trivial, ⟨VW.bool (fit_2 j1 j2), trivial⟩, ⟨bw_mbx, trivial⟩⟩; done) | (first | omega | contradiction | (simp_all; done); done)
            · have g10 := bne_eq_false_iff_eq.1 h10
              try simp only [List.length_map] at g10
              refine ⟨fun h11 => ?_, fun h11 => ?_⟩
              · have g11 := beq_iff_eq.1 h11
                try simp only [List.length_map] at g11
                first | (exact ⟨[], [0], rfl, trivial, ⟨VW.bool (fit_1 (by omega)), trivial⟩, ⟨bw_mbx, trivial⟩⟩; done) | (exact ⟨[], [0], rfl, trivial, ⟨VW.bool (fit_2 j1 j2), trivial⟩, ⟨bw_mbx, trivial⟩⟩; done) | (first | omega | contradiction | (simp_all; done); done)
              · have g11 := beq_eq_false_iff_ne.1 h11
                try simp only [List.length_map] at g11
                refine ⟨?_, ?_⟩
                · first | (exact px26 (by omega); done) | (exact px27 (by omega); done) | (exact px28 (by omega); done) | (exact sl27 (by omega); done) | (first | omega | contradiction | (simp_all; done); done)
                refine ⟨?_, ?_⟩
                · first | (exact ⟨trivial, (by first | trivial | simp [frzOk]), ⟨(by first | (exact VW.int (wsucc (by omega)); done) | (exact VW.int rfl; done) | (exact VW.lst rfl rfl; done) | (exact VW.cptr rfl; done) | (exact VW.fn .nil; done) | (exact VW.bool rfl; done) | (exact VW.ptr rfl rfl; done) | (exact VW.sl rfl rfl rfl rfl; done) | (exact VW.no rfl; done) | (exact VW.eo rfl; done) | (exact VW.nils; done) | (exact VW.emp; done) | (exact VW.str rfl; done) | (exact VW.int (by first | (simp; done) | fail); done)), (by first | (exact VW.int (wsucc (by omega)); done) | (exact VW.int rfl; done) | (exact VW.lst rfl rfl; done) | (exact VW.cptr rfl; done) | (exact VW.fn .nil; done) | (exact VW.bool rfl; done) | (exact VW.ptr rfl rfl; done) | (exact VW.sl rfl rfl rfl rfl; done) | (exact VW.no rfl; done) | (exact VW.eo rfl; done) | (exact VW.nils; done) | (exact VW.emp; done) | (exact VW.str rfl; done) | (exact VW.int (by first | (simp; done) | fail); done)), (by first | (exact VW.int (wsucc (by omega)); done) | (exact VW.int rfl; done) | (exact VW.lst rfl rfl; done) | (exact VW.cptr rfl; done) | (exact VW.fn .nil; done) | (exact VW.bool rfl; done) | (exact VW.ptr rfl rfl; done) | (exact VW.sl rfl rfl rfl rfl; done) | (exact VW.no rfl; done) | (exact VW.eo rfl; done) | (exact VW.nils; done) | (exact VW.emp; done) | (exact VW.str rfl; done) | (exact VW.int (by first | (simp; done) | fail); done)), (by first | (exact VW.int (wsucc (by omega)); done) | (exact VW.int rfl; done) | (exact VW.lst rfl rfl; done) | (exact VW.cptr rfl; done) | (exact VW.fn .nil; done) | (exact VW.bool rfl; done) | (exact VW.ptr rfl rfl; done) | (exact VW.sl rfl rfl rfl rfl; done) | (exact VW.no rfl; done) | (exact VW.eo rfl; done) | (exact VW.nils; done) | (exact VW.emp; done) | (exact VW.str rfl; done) | (exact VW.int (by first | (simp; done) | fail); done)), (by first | (exact VW.int (wsucc (by omega)); done) | (exact VW.int rfl; done) | (exact VW.lst rfl rfl; done) | (exact VW.cptr rfl; done) | (exact VW.fn .nil; done) | (exact VW.bool rfl; done) | (exact VW.ptr rfl rfl; done) | (exact VW.sl rfl rfl rfl rfl; done) | (exact VW.no rfl; done) | (exact VW.eo rfl; done) | (exact VW.nils; done) | (exact VW.emp; done) | (exact VW.str rfl; done) | (exact VW.int (by first | (simp; done) | fail); done)), trivial⟩, ⟨(by first | (exact bw_mbx; done) | (exact bw_img; done) | (exact BW.tik rfl (by first | (simp; done) | omega); done)), (by first | (exact bw_mbx; done) | (exact bw_img; done) | (exact BW.tik rfl (by first | (simp; done) | omega); done)), trivial⟩⟩; done) | (first | omega | contradiction | (simp_all; done); done)
                refine ⟨?_, ?_⟩
                · first | (exact (lp37s iso shr hC l m s x hs).2 j j1 j2 j3; done) | (first | omega | contradiction | (simp_all; done); done)
                first | (exact ⟨[], [0], rfl, trivial, ⟨VW.bool (fit_1 (by omega)), trivial⟩, ⟨bw_mbx, trivial⟩⟩; done) | (exact ⟨[], [0], rfl, trivial, ⟨VW.bool (fit_2 j1 j2), trivial⟩, ⟨bw_mbx, trivial⟩⟩; done) | (first | omega | contradiction | (simp_all; done); done)
theorem lf2 : ∃ (iso : Nat → List PV → Option PV) (shr : Nat → List PV → List Pv.Box → Option (PV × List Pv.Box)), OrcOk Tryd.prog X.G ⟨iso, shr, ownS X.sh, []⟩ ∧ (∀ (l : List Ins) (m : Int) (s : Int), (WF l ∧ l.length ≤ 300) → iso 25 [imgP l m s] = some (.bool (ckE l m s == 0))) ∧ (∀ (l : List Ins) (m : Int) (s : Int) (x : Mc), (Sm x) → shr 37 [imgP l m s, .ptr 0 0] [mbx x] = some (.bool (fitM l m s x), [mbx x])) := by
  obtain ⟨h25, e25, o25⟩ := ent_ex (fun q : (List Ins) × (Int) × (Int) => WF (q.1) ∧ (q.1).length ≤ 300) (fun q => ([imgP (q.1) (q.2.1) (q.2.2)], .bool (ckE (q.1) (q.2.1) (q.2.2) == 0))) (fun a b h => by simp only [List.cons.injEq, nums_inj, stks_inj, acts_inj, Mc_inj, imgP_inj, mbx_inj, PV.int.injEq, ArgPv_inj, and_true, true_and] at h; first | rfl | (simp only [h]; done) | (simp [h]; done))
  obtain ⟨h37, e37, o37⟩ := entS_ex (fun q : (List Ins) × (Int) × (Int) × (Mc) => Sm (q.2.2.2)) (fun q => (([imgP (q.1) (q.2.1) (q.2.2.1), .ptr 0 0], [mbx (q.2.2.2)]), (.bool (fitM (q.1) (q.2.1) (q.2.2.1) (q.2.2.2)), [mbx (q.2.2.2)]))) (fun a b h => by simp only [Prod.mk.injEq, List.cons.injEq, nums_inj, stks_inj, acts_inj, Mc_inj, imgP_inj, mbx_inj, PV.int.injEq, ArgPv_inj, and_true, true_and] at h; first | rfl | (simp only [h]; done) | (simp [h]; done))
  have hT : TabOk Tryd.prog X.G [(25, h25)] := tk (fun l r e => by obtain ⟨a, ha, rfl, rfl⟩ := o25 l r e; exact okw25 (a.1) (a.2.1) (a.2.2) ha.1 ha.2) tn
  have hS : TabSOk Tryd.prog X.G [(37, h37)] := tkS (fun al hp r e' => by
    obtain ⟨a, ha, hb, rfl⟩ := o37 al hp r e'
    simp only [Prod.mk.injEq] at hb
    obtain ⟨rfl, rfl⟩ := hb
    exact sh37 (a.1) (a.2.1) (a.2.2.1) (a.2.2.2) ha) tn'
  exact ⟨_, _, orcS hT hS, fun l m s hp => e25 (l, m, s) hp, fun l m s x hp => e37 (l, m, s, x) hp⟩
theorem pcallv_img {C : Orc} {g i : Nat} {l : List Ins} {m s : Int} {hp : List Pv.Box} {x x' : Mc} {r : PV} (hs : C.sh g = true) (hi : hp[i]? = some (mbx x)) (hr : noBoxB deep r = true)
    (hc : C.shr g [imgP l m s, .ptr 0 0] [mbx x] = some (r, [mbx x'])) : pcallv C (.fn g []) [imgP l m s, .ptr i 0] hp = some (r, hp.set i (mbx x')) := by
  have nb : ∀ x : Mc, (mbx x).cells.all (noBoxB deep) = true := fun x => rfl
  have hlt : i < hp.length := (List.getElem?_eq_some_iff.1 hi).1
  unfold pcallv psub
  simp only [List.append_nil]
  rw [if_pos hs, if_neg (by simp [noBoxB, deep])]
  have e1 : [imgP l m s, .ptr i 0].flatMap (boxesIn deep) = [i] := rfl
  have eb : (mbx x).cells.flatMap (boxesIn deep) = [] := rfl
  rw [e1, reach_one hi eb 9998]
  unfold psubI
  have e2 : (nodB [i] && [i].all fun i => Nat.blt i hp.length) = true := by simp [nodB, Nat.blt]; omega
  rw [e2]
  have e3 : [imgP l m s, .ptr i 0].map (ren (posIn [i]) deep) = [imgP l m s, .ptr 0 0] := by
    show [imgP l m s, (match posIn [i] i with | some j => PV.ptr j 0 | none => PV.any)] = _
    rw [posIn_self]
  have e4 : pick hp [i] = [mbx x] := by
    unfold pick
    simp only [List.map_cons, List.map_nil, hi, renB_no (nb x)]
  rw [e3, e4]
  simp only [hc]
  have e5 : Nat.ble [i].length [mbx x'].length = true := rfl
  rw [e5]
  simp only [setAll, renB_no (nb x'), List.map_nil, List.append_nil]
  rw [noBox_ren _ _ hr]
theorem sh20  (l : List Ins) (m : Int) (s : Int) (x : Mc) (hw : WF l ∧ l.length ≤ 300) (hs : Sm x) : Sh Tryd.prog X.G 20 [imgP l m s, .ptr 0 0] [mbx x] (.bool ((ckE l m s == 0) && fitM l m s x)) ([mbx x]) := by
  obtain ⟨iso, shr, hC, e25, e37⟩ := lf2
  refine wfun_ok env hC fd20 (t20 iso shr l m s x) ?_ hhS
  simp only [Holds]
  refine ⟨fun h0 => ?_, fun h0 => ?_⟩
  · have g0 := beq_iff_eq.1 h0
    try simp only [List.length_map] at g0
    refine ⟨?_, ?_⟩
    · first | (exact pcallv_iso rfl rfl (by rw [← h0]; exact e25 _ _ _ hw); done) | (exact pcallv_iso rfl rfl (e25 _ _ _ hw); done) | (first | omega | contradiction | (simp_all; done); done)
    refine ⟨fun h1 => ?_, fun h1 => ?_⟩
    · have g1 := h1
      refine ⟨?_, ?_⟩
      · first | (exact pcallv_img (i := 0) (x := x) (x' := x) rfl rfl rfl ((e37 _ _ _ _ hs).trans (congrArg (fun b => some (PV.bool b, [mbx x])) (by assumption))); done) | (first | omega | contradiction | (simp_all; done); done)
      first | (exact ⟨[], [0], rfl, trivial, ⟨VW.bool ((by first | (rw [h0]; simp; done) | (simp [*]; done) | (simp_all; done) | fail)), trivial⟩, ⟨bw_mbx, trivial⟩⟩; done) | (first | omega | contradiction | (simp_all; done); done)
    · have g1 := h1
      refine ⟨?_, ?_⟩
      · first | (exact pcallv_img (i := 0) (x := x) (x' := x) rfl rfl rfl ((e37 _ _ _ _ hs).trans (congrArg (fun b => some (PV.bool b, [mbx x])) (by assumption))); done) | (first | omega | contradiction | (simp_all; done); done)
      first | (exact ⟨[], [0], rfl, trivial, ⟨VW.bool ((by first | (rw [h0]; simp; done) | (simp [*]; done) | (simp_all; done) | fail)), trivial⟩, ⟨bw_mbx, trivial⟩⟩; done) | (first | omega | contradiction | (simp_all; done); done)
  · have g0 := beq_eq_false_iff_ne.1 h0
    try simp only [List.length_map] at g0
    refine ⟨?_, ?_⟩
    · first | (exact pcallv_iso rfl rfl (by rw [← h0]; exact e25 _ _ _ hw); done) | (exact pcallv_iso rfl rfl (e25 _ _ _ hw); done) | (first | omega | contradiction | (simp_all; done); done)
    first | (exact ⟨[], [0], rfl, trivial, ⟨VW.bool ((by first | (rw [h0]; simp; done) | (simp [*]; done) | (simp_all; done) | fail)), trivial⟩, ⟨bw_mbx, trivial⟩⟩; done) | (first | omega | contradiction | (simp_all; done); done)
end Go.Proofs.YtfhojpnofmlkdaaDoor
