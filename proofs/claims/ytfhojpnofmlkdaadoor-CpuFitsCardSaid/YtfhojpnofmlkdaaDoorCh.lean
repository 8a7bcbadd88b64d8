/- The reference's Fits, great, Clone. -/
import Derived.Test.YtfhojpnofmlkdaaDoorCg
namespace Go.Proofs.YtfhojpnofmlkdaaDoor
open Go.Proofs.YtfhojpnofmlkdaaDoor.Pv Go.RowKit
set_option maxRecDepth 100000
set_option maxHeartbeats 4000000
set_option linter.unusedSimpArgs false
set_option linter.unusedVariables false
set_option maxHeartbeats 2000000
theorem fit_d {l : List Ins} {m s : Int} {x : Mc} (h : ¬ (((x.dir = 1 ∨ x.dir = -1) ∧ 0 ≤ x.pc ∧ x.pc ≤ l.length ∧ (x.m.length : Int) = m ∧ (x.s.length : Int) = s ∧ 0 < x.s.length) ∧ (x.c.length ≤ 100 ∧ x.i.length ≤ 4096 ∧ x.o.length ≤ 4096 ∧ 0 ≤ x.fp ∧ x.fp ≤ m ∧ 0 ≤ x.sb ∧ x.sb ≤ s))) : false = fitM l m s x := by
  unfold fitM
  by_cases h1 : ((x.dir = 1 ∨ x.dir = -1) ∧ 0 ≤ x.pc ∧ x.pc ≤ l.length ∧ (x.m.length : Int) = m ∧ (x.s.length : Int) = s ∧ 0 < x.s.length)
  · rw [decide_eq_false (fun h2 => h ⟨h1, h2⟩)]; simp
  · rw [decide_eq_false h1]; rfl
theorem drop1_getD (l : List (List Int)) (j : Nat) : (l.drop 1).getD j default = l.getD (j + 1) default := by
  rw [List.getD_eq_getElem?_getD, List.getD_eq_getElem?_getD, List.getElem?_drop, Nat.add_comm]
theorem px27s {l : List (List Int)} {i : Nat} {hp : List Pv.Box} (h : i + 1 < l.length) : (pidx Tryd.prog 27 (.lst 1 (l.map nums)) (.int .i64 ((i + 1 : Nat) : Int))).map (fun v => (v, hp)) = some (.cptr [.lst 1 (List.map J (List.getD l (i + 1) default))], hp) := px27 h
def hd28s (l : List Ins) (m : Int) (s : Int) (x : Mc) (i : Nat) : PS := ⟨⟨131, [(5, .int .i64 (((i + 1 : Nat)) : Int)), (3, .cptr (Mc.cs x)), (2, .ptr 0 0)]⟩, [⟨3, [.lst 5 (l.map Ins.pv), J m, J s], 0⟩]⟩
def en28s (l : List Ins) (m : Int) (s : Int) (x : Mc) : PS := ⟨⟨131, [(2, .ptr 0 0), (3, .cptr (Mc.cs x))]⟩, [⟨3, [.lst 5 (l.map Ins.pv), J m, J s], 0⟩]⟩
theorem lp28s (iso : Nat → List PV → Option PV) (shr : Nat → List PV → List Pv.Box → Option (PV × List Pv.Box)) (hC : OrcOk Tryd.prog X.G ⟨iso, shr, ownS X.sh, []⟩)  (l : List Ins) (m : Int) (s : Int) (x : Mc) (hp0 : 0 < x.s.length) (hs : Sm x) : ((∀ j, j < x.s.length - 1 → decide ((x.s.getD (j + 1) default).length ≤ 1000) = true) → LoopOk Tryd.prog X.G 0 (lpB Tryd.f28 4) (hd28s l m s x 0) (.exit 0) (en28s l m s x)) ∧ (∀ j, j < x.s.length - 1 → decide ((x.s.getD (j + 1) default).length ≤ 1000) = false → (∀ k, k < j → decide ((x.s.getD (k + 1) default).length ≤ 1000) = true) → LoopOk Tryd.prog X.G 0 (lpB Tryd.f28 4) (hd28s l m s x 0) .ret ⟨⟨131, [(4, .bool false)]⟩, []⟩) := by
  refine loop_first (S := hd28s l m s x) (c := fun i => decide ((x.s.getD (i + 1) default).length ≤ 1000)) (e1 := fun i => (.ret, ⟨⟨131, [(4, .bool false)]⟩, []⟩)) (e2 := (.exit 0, en28s l m s x)) (fun i hi hc ep sp nx => ?_) (fun i hi hc => ?_) ?_
  · refine round_ok env.mixed hC (by kernel_rfl) (r28s iso shr l m s x i) ?_
    simp only [Holds, Pv.Next]
    have hsz := hs.s
    rw [BB_eq] at hsz
    try simp only [decide_eq_true_eq, decide_eq_false_iff_not] at hc
    refine ⟨fun h0 => ?_, fun h0 => ?_⟩
    · have g0 := of_decide_eq_true h0
      try simp only [List.length_map] at g0
      refine ⟨?_, ?_⟩
      · first | (exact px27s (by omega); done) | (exact px26 (by omega); done) | (exact px27 (by omega); done) | (exact px28 (by omega); done) | (first | omega | contradiction | (simp_all; done); done)
      refine ⟨fun h1 => ?_, fun h1 => ?_⟩
      · have g1 := of_decide_eq_true h1
        try simp only [List.length_map] at g1
        refine ⟨by first | trivial | rfl | exact ⟨rfl, trivial⟩ | simp, ?_⟩
        refine ⟨?_, ?_⟩
        · first | (exact ⟨trivial, (by first | trivial | simp [frzOk]), ⟨(by first | (exact VW.int (wsucc (by omega)); done) | (exact VW.int rfl; done) | (exact VW.lst rfl rfl; done) | (exact VW.cptr rfl; done) | (exact VW.fn .nil; done) | (exact VW.bool rfl; done) | (exact VW.ptr rfl rfl; done) | (exact VW.sl rfl rfl rfl rfl; done) | (exact VW.no rfl; done) | (exact VW.eo rfl; done) | (exact VW.nils; done) | (exact VW.emp; done) | (exact VW.str rfl; done) | (exact VW.int (by first | (simp; done) | fail); done)), trivial⟩, trivial⟩; done) | (first | omega | contradiction | (simp_all; done); done)
        first | (exact ⟨trivial, rfl⟩; done) | (exact ⟨rfl, rfl⟩; done) | (trivial; done) | (rfl; done) | (first | omega | contradiction | (simp_all; done); done)
      · have g1 := of_decide_eq_false h1
        try simp only [List.length_map] at g1
        refine ⟨?_, ?_⟩
        · first | (exact ⟨trivial, (by first | trivial | simp [frzOk]), ⟨(by first | (exact VW.int (wsucc (by omega)); done) | (exact VW.int rfl; done) | (exact VW.lst rfl rfl; done) | (exact VW.cptr rfl; done) | (exact VW.fn .nil; done) | (exact VW.bool rfl; done) | (exact VW.ptr rfl rfl; done) | (exact VW.sl rfl rfl rfl rfl; done) | (exact VW.no rfl; done) | (exact VW.eo rfl; done) | (exact VW.nils; done) | (exact VW.emp; done) | (exact VW.str rfl; done) | (exact VW.int (by first | (simp; done) | fail); done)), (by first | (exact VW.int (wsucc (by omega)); done) | (exact VW.int rfl; done) | (exact VW.lst rfl rfl; done) | (exact VW.cptr rfl; done) | (exact VW.fn .nil; done) | (exact VW.bool rfl; done) | (exact VW.ptr rfl rfl; done) | (exact VW.sl rfl rfl rfl rfl; done) | (exact VW.no rfl; done) | (exact VW.eo rfl; done) | (exact VW.nils; done) | (exact VW.emp; done) | (exact VW.str rfl; done) | (exact VW.int (by first | (simp; done) | fail); done)), (by first | (exact VW.int (wsucc (by omega)); done) | (exact VW.int rfl; done) | (exact VW.lst rfl rfl; done) | (exact VW.cptr rfl; done) | (exact VW.fn .nil; done) | (exact VW.bool rfl; done) | (exact VW.ptr rfl rfl; done) | (exact VW.sl rfl rfl rfl rfl; done) | (exact VW.no rfl; done) | (exact VW.eo rfl; done) | (exact VW.nils; done) | (exact VW.emp; done) | (exact VW.str rfl; done) | (exact VW.int (by first | (simp; done) | fail); done)), trivial⟩, ⟨(by first | (exact bw_img; done) | (exact BW.tik rfl (by first | (simp; done) | omega); done)), trivial⟩⟩; done) | (first | omega | contradiction | (simp_all; done); done)
        first | (exact nx; done) | (first | omega | contradiction | (simp_all; done); done)
    · have g0 := of_decide_eq_false h0
      try simp only [List.length_map] at g0
      refine ⟨by first | trivial | rfl | exact ⟨rfl, trivial⟩ | simp, ?_⟩
      refine ⟨?_, ?_⟩
      · first | (exact ⟨trivial, (by first | trivial | simp [frzOk]), ⟨(by first | (exact VW.int (wsucc (by omega)); done) | (exact VW.int rfl; done) | (exact VW.lst rfl rfl; done) | (exact VW.cptr rfl; done) | (exact VW.fn .nil; done) | (exact VW.bool rfl; done) | (exact VW.ptr rfl rfl; done) | (exact VW.sl rfl rfl rfl rfl; done) | (exact VW.no rfl; done) | (exact VW.eo rfl; done) | (exact VW.nils; done) | (exact VW.emp; done) | (exact VW.str rfl; done) | (exact VW.int (by first | (simp; done) | fail); done)), (by first | (exact VW.int (wsucc (by omega)); done) | (exact VW.int rfl; done) | (exact VW.lst rfl rfl; done) | (exact VW.cptr rfl; done) | (exact VW.fn .nil; done) | (exact VW.bool rfl; done) | (exact VW.ptr rfl rfl; done) | (exact VW.sl rfl rfl rfl rfl; done) | (exact VW.no rfl; done) | (exact VW.eo rfl; done) | (exact VW.nils; done) | (exact VW.emp; done) | (exact VW.str rfl; done) | (exact VW.int (by first | (simp; done) | fail); done)), trivial⟩, ⟨(by first | (exact bw_img; done) | (exact BW.tik rfl (by first | (simp; done) | omega); done)), trivial⟩⟩; done) | (first | omega | contradiction | (simp_all; done); done)
      first | (exact ⟨trivial, rfl⟩; done) | (exact ⟨rfl, rfl⟩; done) | (trivial; done) | (rfl; done) | (first | omega | contradiction | (simp_all; done); done)
  · refine round_ok env.mixed hC (by kernel_rfl) (r28s iso shr l m s x i) ?_
    simp only [Holds, Pv.Next]
    have hsz := hs.s
    rw [BB_eq] at hsz
    try simp only [decide_eq_true_eq, decide_eq_false_iff_not] at hc
    refine ⟨fun h0 => ?_, fun h0 => ?_⟩
    · have g0 := of_decide_eq_true h0
      try simp only [List.length_map] at g0
      refine ⟨?_, ?_⟩
      · first | (exact px27s (by omega); done) | (exact px26 (by omega); done) | (exact px27 (by omega); done) | (exact px28 (by omega); done) | (first | omega | contradiction | (simp_all; done); done)
      refine ⟨fun h1 => ?_, fun h1 => ?_⟩
      · have g1 := of_decide_eq_true h1
        try simp only [List.length_map] at g1
        refine ⟨by first | trivial | rfl | exact ⟨rfl, trivial⟩ | simp, ?_⟩
        refine ⟨?_, ?_⟩
        · first | (exact ⟨trivial, (by first | trivial | simp [frzOk]), ⟨(by first | (exact VW.int (wsucc (by omega)); done) | (exact VW.int rfl; done) | (exact VW.lst rfl rfl; done) | (exact VW.cptr rfl; done) | (exact VW.fn .nil; done) | (exact VW.bool rfl; done) | (exact VW.ptr rfl rfl; done) | (exact VW.sl rfl rfl rfl rfl; done) | (exact VW.no rfl; done) | (exact VW.eo rfl; done) | (exact VW.nils; done) | (exact VW.emp; done) | (exact VW.str rfl; done) | (exact VW.int (by first | (simp; done) | fail); done)), trivial⟩, trivial⟩; done) | (first | omega | contradiction | (simp_all; done); done)
        first | (exact ⟨trivial, rfl⟩; done) | (exact ⟨rfl, rfl⟩; done) | (trivial; done) | (rfl; done) | (first | omega | contradiction | (simp_all; done); done)
      · have g1 := of_decide_eq_false h1
        try simp only [List.length_map] at g1
        refine ⟨?_, ?_⟩
        · first | (exact ⟨trivial, (by first | trivial | simp [frzOk]), ⟨(by first | (exact VW.int (wsucc (by omega)); done) | (exact VW.int rfl; done) | (exact VW.lst rfl rfl; done) | (exact VW.cptr rfl; done) | (exact VW.fn .nil; done) | (exact VW.bool rfl; done) | (exact VW.ptr rfl rfl; done) | (exact VW.sl rfl rfl rfl rfl; done) | (exact VW.no rfl; done) | (exact VW.eo rfl; done) | (exact VW.nils; done) | (exact VW.emp; done) | (exact VW.str rfl; done) | (exact VW.int (by first | (simp; done) | fail); done)), (by first | (exact VW.int (wsucc (by omega)); done) | (exact VW.int rfl; done) | (exact VW.lst rfl rfl; done) | (exact VW.cptr rfl; done) | (exact VW.fn .nil; done) | (exact VW.bool rfl; done) | (exact VW.ptr rfl rfl; done) | (exact VW.sl rfl rfl rfl rfl; done) | (exact VW.no rfl; done) | (exact VW.eo rfl; done) | (exact VW.nils; done) | (exact VW.emp; done) | (exact VW.str rfl; done) | (exact VW.int (by first | (simp; done) | fail); done)), (by first | (exact VW.int (wsucc (by omega)); done) | (exact VW.int rfl; done) | (exact VW.lst rfl rfl; done) | (exact VW.cptr rfl; done) | (exact VW.fn .nil; done) | (exact VW.bool rfl; done) | (exact VW.ptr rfl rfl; done) | (exact VW.sl rfl rfl rfl rfl; done) | (exact VW.no rfl; done) | (exact VW.eo rfl; done) | (exact VW.nils; done) | (exact VW.emp; done) | (exact VW.str rfl; done) | (exact VW.int (by first | (simp; done) | fail); done)), trivial⟩, ⟨(by first | (exact bw_img; done) | (exact BW.tik rfl (by first | (simp; done) | omega); done)), trivial⟩⟩; done) | (first | omega | contradiction | (simp_all; done); done)
        first | (exact nx; done) | (first | omega | contradiction | (simp_all; done); done)
    · have g0 := of_decide_eq_false h0
      try simp only [List.length_map] at g0
      refine ⟨by first | trivial | rfl | exact ⟨rfl, trivial⟩ | simp, ?_⟩
      refine ⟨?_, ?_⟩
      · first | (exact ⟨trivial, (by first | trivial | simp [frzOk]), ⟨(by first | (exact VW.int (wsucc (by omega)); done) | (exact VW.int rfl; done) | (exact VW.lst rfl rfl; done) | (exact VW.cptr rfl; done) | (exact VW.fn .nil; done) | (exact VW.bool rfl; done) | (exact VW.ptr rfl rfl; done) | (exact VW.sl rfl rfl rfl rfl; done) | (exact VW.no rfl; done) | (exact VW.eo rfl; done) | (exact VW.nils; done) | (exact VW.emp; done) | (exact VW.str rfl; done) | (exact VW.int (by first | (simp; done) | fail); done)), (by first | (exact VW.int (wsucc (by omega)); done) | (exact VW.int rfl; done) | (exact VW.lst rfl rfl; done) | (exact VW.cptr rfl; done) | (exact VW.fn .nil; done) | (exact VW.bool rfl; done) | (exact VW.ptr rfl rfl; done) | (exact VW.sl rfl rfl rfl rfl; done) | (exact VW.no rfl; done) | (exact VW.eo rfl; done) | (exact VW.nils; done) | (exact VW.emp; done) | (exact VW.str rfl; done) | (exact VW.int (by first | (simp; done) | fail); done)), trivial⟩, ⟨(by first | (exact bw_img; done) | (exact BW.tik rfl (by first | (simp; done) | omega); done)), trivial⟩⟩; done) | (first | omega | contradiction | (simp_all; done); done)
      first | (exact ⟨trivial, rfl⟩; done) | (exact ⟨rfl, rfl⟩; done) | (trivial; done) | (rfl; done) | (first | omega | contradiction | (simp_all; done); done)
  · refine round_ok env.mixed hC (by kernel_rfl) (r28s iso shr l m s x (x.s.length - 1)) ?_
    simp only [Holds, Pv.Next]
    have hsz := hs.s
    rw [BB_eq] at hsz
    refine ⟨fun h0 => ?_, fun h0 => ?_⟩
    · have g0 := of_decide_eq_true h0
      try simp only [List.length_map] at g0
      refine ⟨?_, ?_⟩
      · first | (exact px27s (by omega); done) | (exact px26 (by omega); done) | (exact px27 (by omega); done) | (exact px28 (by omega); done) | (first | omega | contradiction | (simp_all; done); done)
      refine ⟨fun h1 => ?_, fun h1 => ?_⟩
      · have g1 := of_decide_eq_true h1
        try simp only [List.length_map] at g1
        refine ⟨by first | trivial | rfl | exact ⟨rfl, trivial⟩ | simp, ?_⟩
        refine ⟨?_, ?_⟩
        · first | (exact ⟨trivial, (by first | trivial | simp [frzOk]), ⟨(by first | (exact VW.int (wsucc (by omega)); done) | (exact VW.int rfl; done) | (exact VW.lst rfl rfl; done) | (exact VW.cptr rfl; done) | (exact VW.fn .nil; done) | (exact VW.bool rfl; done) | (exact VW.ptr rfl rfl; done) | (exact VW.sl rfl rfl rfl rfl; done) | (exact VW.no rfl; done) | (exact VW.eo rfl; done) | (exact VW.nils; done) | (exact VW.emp; done) | (exact VW.str rfl; done) | (exact VW.int (by first | (simp; done) | fail); done)), trivial⟩, trivial⟩; done) | (first | omega | contradiction | (simp_all; done); done)
        first | (exact ⟨trivial, rfl⟩; done) | (exact ⟨rfl, rfl⟩; done) | (trivial; done) | (rfl; done) | (first | omega | contradiction | (simp_all; done); done)
      · have g1 := of_decide_eq_false h1
        try simp only [List.length_map] at g1
        refine ⟨?_, ?_⟩
        · first | (exact ⟨trivial, (by first | trivial | simp [frzOk]), ⟨(by first | (exact VW.int (wsucc (by omega)); done) | (exact VW.int rfl; done) | (exact VW.lst rfl rfl; done) | (exact VW.cptr rfl; done) | (exact VW.fn .nil; done) | (exact VW.bool rfl; done) | (exact VW.ptr rfl rfl; done) | (exact VW.sl rfl rfl rfl rfl; done) | (exact VW.no rfl; done) | (exact VW.eo rfl; done) | (exact VW.nils; done) | (exact VW.emp; done) | (exact VW.str rfl; done) | (exact VW.int (by first | (simp; done) | fail); done)), (by first | (exact VW.int (wsucc (by omega)); done) | (exact VW.int rfl; done) | (exact VW.lst rfl rfl; done) | (exact VW.cptr rfl; done) | (exact VW.fn .nil; done) | (exact VW.bool rfl; done) | (exact VW.ptr rfl rfl; done) | (exact VW.sl rfl rfl rfl rfl; done) | (exact VW.no rfl; done) | (exact VW.eo rfl; done) | (exact VW.nils; done) | (exact VW.emp; done) | (exact VW.str rfl; done) | (exact VW.int (by first | (simp; done) | fail); done)), (by first | (exact VW.int (wsucc (by omega)); done) | (exact VW.int rfl; done) | (exact VW.lst rfl rfl; done) | (exact VW.cptr rfl; done) | (exact VW.fn .nil; done) | (exact VW.bool rfl; done) | (exact VW.ptr rfl rfl; done) | (exact VW.sl rfl rfl rfl rfl; done) | (exact VW.no rfl; done) | (exact VW.eo rfl; done) | (exact VW.nils; done) | (exact VW.emp; done) | (exact VW.str rfl; done) | (exact VW.int (by first | (simp; done) | fail); done)), trivial⟩, ⟨(by first | (exact bw_img; done) | (exact BW.tik rfl (by first | (simp; done) | omega); done)), trivial⟩⟩; done) | (first | omega | contradiction | (simp_all; done); done)
        first | (exact nx; done) | (first | omega | contradiction | (simp_all; done); done)
    · have g0 := of_decide_eq_false h0
      try simp only [List.length_map] at g0
      refine ⟨by first | trivial | rfl | exact ⟨rfl, trivial⟩ | simp, ?_⟩
      refine ⟨?_, ?_⟩
      · first | (exact ⟨trivial, (by first | trivial | simp [frzOk]), ⟨(by first | (exact VW.int (wsucc (by omega)); done) | (exact VW.int rfl; done) | (exact VW.lst rfl rfl; done) | (exact VW.cptr rfl; done) | (exact VW.fn .nil; done) | (exact VW.bool rfl; done) | (exact VW.ptr rfl rfl; done) | (exact VW.sl rfl rfl rfl rfl; done) | (exact VW.no rfl; done) | (exact VW.eo rfl; done) | (exact VW.nils; done) | (exact VW.emp; done) | (exact VW.str rfl; done) | (exact VW.int (by first | (simp; done) | fail); done)), (by first | (exact VW.int (wsucc (by omega)); done) | (exact VW.int rfl; done) | (exact VW.lst rfl rfl; done) | (exact VW.cptr rfl; done) | (exact VW.fn .nil; done) | (exact VW.bool rfl; done) | (exact VW.ptr rfl rfl; done) | (exact VW.sl rfl rfl rfl rfl; done) | (exact VW.no rfl; done) | (exact VW.eo rfl; done) | (exact VW.nils; done) | (exact VW.emp; done) | (exact VW.str rfl; done) | (exact VW.int (by first | (simp; done) | fail); done)), trivial⟩, ⟨(by first | (exact bw_img; done) | (exact BW.tik rfl (by first | (simp; done) | omega); done)), trivial⟩⟩; done) | (first | omega | contradiction | (simp_all; done); done)
      first | (exact ⟨trivial, rfl⟩; done) | (exact ⟨rfl, rfl⟩; done) | (trivial; done) | (rfl; done) | (first | omega | contradiction | (simp_all; done); done)
def hd28c (l : List Ins) (m : Int) (s : Int) (x : Mc) (i : Nat) : PS := ⟨⟨131, [(6, .int .i64 ((i : Nat) : Int)), (2, .ptr 0 0), (3, .cptr (Mc.cs x))]⟩, [⟨3, [.lst 5 (l.map Ins.pv), J m, J s], 0⟩]⟩
def en28c (l : List Ins) (m : Int) (s : Int) (x : Mc) : PS := ⟨⟨131, []⟩, []⟩
theorem lp28c (iso : Nat → List PV → Option PV) (shr : Nat → List PV → List Pv.Box → Option (PV × List Pv.Box)) (hC : OrcOk Tryd.prog X.G ⟨iso, shr, ownS X.sh, []⟩)  (l : List Ins) (m : Int) (s : Int) (x : Mc) (hs : Sm x) : ((∀ j, j < x.c.length → decide (0 ≤ (x.c.getD j default).site ∧ (x.c.getD j default).site < l.length) = true) → LoopOk Tryd.prog X.G 0 (lpB Tryd.f28 9) (hd28c l m s x 0) (.exit 2) (en28c l m s x)) ∧ (∀ j, j < x.c.length → decide (0 ≤ (x.c.getD j default).site ∧ (x.c.getD j default).site < l.length) = false → (∀ k, k < j → decide (0 ≤ (x.c.getD k default).site ∧ (x.c.getD k default).site < l.length) = true) → LoopOk Tryd.prog X.G 0 (lpB Tryd.f28 9) (hd28c l m s x 0) .ret ⟨⟨131, [(4, .bool false)]⟩, []⟩) := by
  refine loop_first (S := hd28c l m s x) (c := fun i => decide (0 ≤ (x.c.getD i default).site ∧ (x.c.getD i default).site < l.length)) (e1 := fun i => (.ret, ⟨⟨131, [(4, .bool false)]⟩, []⟩)) (e2 := (.exit 2, en28c l m s x)) (fun i hi hc ep sp nx => ?_) (fun i hi hc => ?_) ?_
  · refine round_ok env.mixed hC (by kernel_rfl) (r28c iso shr l m s x i) ?_
    simp only [Holds, Pv.Next]
    have hsz := hs.c
    rw [BB_eq] at hsz
    try simp only [decide_eq_true_eq, decide_eq_false_iff_not] at hc
    refine ⟨fun h0 => ?_, fun h0 => ?_⟩
    · have g0 := of_decide_eq_true h0
      try simp only [List.length_map] at g0
      refine ⟨?_, ?_⟩
      · first | (exact px26 (by omega); done) | (exact px27 (by omega); done) | (exact px28 (by omega); done) | (first | omega | contradiction | (simp_all; done); done)
      refine ⟨fun h1 => ?_, fun h1 => ?_⟩
      · have g1 := of_decide_eq_true h1
        try simp only [List.length_map] at g1
        refine ⟨by first | trivial | rfl | exact ⟨rfl, trivial⟩ | simp, ?_⟩
        refine ⟨?_, ?_⟩
        · first | (exact ⟨trivial, (by first | trivial | simp [frzOk]), ⟨(by first | (exact VW.int (wsucc (by omega)); done) | (exact VW.int rfl; done) | (exact VW.lst rfl rfl; done) | (exact VW.cptr rfl; done) | (exact VW.fn .nil; done) | (exact VW.bool rfl; done) | (exact VW.ptr rfl rfl; done) | (exact VW.sl rfl rfl rfl rfl; done) | (exact VW.no rfl; done) | (exact VW.eo rfl; done) | (exact VW.nils; done) | (exact VW.emp; done) | (exact VW.str rfl; done) | (exact VW.int (by first | (simp; done) | fail); done)), trivial⟩, trivial⟩; done) | (first | omega | contradiction | (simp_all; done); done)
        first | (exact ⟨trivial, rfl⟩; done) | (exact ⟨rfl, rfl⟩; done) | (trivial; done) | (rfl; done) | (first | omega | contradiction | (simp_all; done); done)
      · have g1 := of_decide_eq_false h1
        try simp only [List.length_map] at g1
        refine ⟨?_, ?_⟩
        · first | (exact px26 (by omega); done) | (exact px27 (by omega); done) | (exact px28 (by omega); done) | (first | omega | contradiction | (simp_all; done); done)
        refine ⟨fun h2 => ?_, fun h2 => ?_⟩
        · have g2 := of_decide_eq_true h2
          try simp only [List.length_map] at g2
          refine ⟨by first | trivial | rfl | exact ⟨rfl, trivial⟩ | simp, ?_⟩
          refine ⟨?_, ?_⟩
          · first | (exact ⟨trivial, (by first | trivial | simp [frzOk]), ⟨(by first | (exact VW.int (wsucc (by omega)); done) | (exact VW.int rfl; done) | (exact VW.lst rfl rfl; done) | (exact VW.cptr rfl; done) | (exact VW.fn .nil; done) | (exact VW.bool rfl; done) | (exact VW.ptr rfl rfl; done) | (exact VW.sl rfl rfl rfl rfl; done) | (exact VW.no rfl; done) | (exact VW.eo rfl; done) | (exact VW.nils; done) | (exact VW.emp; done) | (exact VW.str rfl; done) | (exact VW.int (by first | (simp; done) | fail); done)), trivial⟩, trivial⟩; done) | (first | omega | contradiction | (simp_all; done); done)
          first | (exact ⟨trivial, rfl⟩; done) | (exact ⟨rfl, rfl⟩; done) | (trivial; done) | (rfl; done) | (first | omega | contradiction | (simp_all; done); done)
        · have g2 := of_decide_eq_false h2
          try simp only [List.length_map] at g2
          refine ⟨?_, ?_⟩
          · first | (exact ⟨trivial, (by first | trivial | simp [frzOk]), ⟨(by first | (exact VW.int (wsucc (by omega)); done) | (exact VW.int rfl; done) | (exact VW.lst rfl rfl; done) | (exact VW.cptr rfl; done) | (exact VW.fn .nil; done) | (exact VW.bool rfl; done) | (exact VW.ptr rfl rfl; done) | (exact VW.sl rfl rfl rfl rfl; done) | (exact VW.no rfl; done) | (exact VW.eo rfl; done) | (exact VW.nils; done) | (exact VW.emp; done) | (exact VW.str rfl; done) | (exact VW.int (by first | (simp; done) | fail); done)), (by first | (exact VW.int (wsucc (by omega)); done) | (exact VW.int rfl; done) | (exact VW.lst rfl rfl; done) | (exact VW.cptr rfl; done) | (exact VW.fn .nil; done) | (exact VW.bool rfl; done) | (exact VW.ptr rfl rfl; done) | (exact VW.sl rfl rfl rfl rfl; done) | (exact VW.no rfl; done) | (exact VW.eo rfl; done) | (exact VW.nils; done) | (exact VW.emp; done) | (exact VW.str rfl; done) | (exact VW.int (by first | (simp; done) | fail); done)), (by first | (exact VW.int (wsucc (by omega)); done) | (exact VW.int rfl; done) | (exact VW.lst rfl rfl; done) | (exact VW.cptr rfl; done) | (exact VW.fn .nil; done) | (exact VW.bool rfl; done) | (exact VW.ptr rfl rfl; done) | (exact VW.sl rfl rfl rfl rfl; done) | (exact VW.no rfl; done) | (exact VW.eo rfl; done) | (exact VW.nils; done) | (exact VW.emp; done) | (exact VW.str rfl; done) | (exact VW.int (by first | (simp; done) | fail); done)), trivial⟩, ⟨(by first | (exact bw_img; done) | (exact BW.tik rfl (by first | (simp; done) | omega); done)), trivial⟩⟩; done) | (first | omega | contradiction | (simp_all; done); done)
          first | (exact nx; done) | (first | omega | contradiction | (simp_all; done); done)
    · have g0 := of_decide_eq_false h0
      try simp only [List.length_map] at g0
      refine ⟨by first | trivial | rfl | exact ⟨rfl, trivial⟩ | simp, ?_⟩
      refine ⟨?_, ?_⟩
      · first | (exact ⟨trivial, (by first | trivial | simp [frzOk]), trivial, trivial⟩; done) | (first | omega | contradiction | (simp_all; done); done)
      first | (exact ⟨trivial, rfl⟩; done) | (exact ⟨rfl, rfl⟩; done) | (trivial; done) | (rfl; done) | (first | omega | contradiction | (simp_all; done); done)
  · refine round_ok env.mixed hC (by kernel_rfl) (r28c iso shr l m s x i) ?_
    simp only [Holds, Pv.Next]
    have hsz := hs.c
    rw [BB_eq] at hsz
    try simp only [decide_eq_true_eq, decide_eq_false_iff_not] at hc
    refine ⟨fun h0 => ?_, fun h0 => ?_⟩
    · have g0 := of_decide_eq_true h0
      try simp only [List.length_map] at g0
      refine ⟨?_, ?_⟩
      · first | (exact px26 (by omega); done) | (exact px27 (by omega); done) | (exact px28 (by omega); done) | (first | omega | contradiction | (simp_all; done); done)
      refine ⟨fun h1 => ?_, fun h1 => ?_⟩
      · have g1 := of_decide_eq_true h1
        try simp only [List.length_map] at g1
        refine ⟨by first | trivial | rfl | exact ⟨rfl, trivial⟩ | simp, ?_⟩
        refine ⟨?_, ?_⟩
        · first | (exact ⟨trivial, (by first | trivial | simp [frzOk]), ⟨(by first | (exact VW.int (wsucc (by omega)); done) | (exact VW.int rfl; done) | (exact VW.lst rfl rfl; done) | (exact VW.cptr rfl; done) | (exact VW.fn .nil; done) | (exact VW.bool rfl; done) | (exact VW.ptr rfl rfl; done) | (exact VW.sl rfl rfl rfl rfl; done) | (exact VW.no rfl; done) | (exact VW.eo rfl; done) | (exact VW.nils; done) | (exact VW.emp; done) | (exact VW.str rfl; done) | (exact VW.int (by first | (simp; done) | fail); done)), trivial⟩, trivial⟩; done) | (first | omega | contradiction | (simp_all; done); done)
        first | (exact ⟨trivial, rfl⟩; done) | (exact ⟨rfl, rfl⟩; done) | (trivial; done) | (rfl; done) | (first | omega | contradiction | (simp_all; done); done)
      · have g1 := of_decide_eq_false h1
        try simp only [List.length_map] at g1
        refine ⟨?_, ?_⟩
        · first | (exact px26 (by omega); done) | (exact px27 (by omega); done) | (exact px28 (by omega); done) | (first | omega | contradiction | (simp_all; done); done)
        refine ⟨fun h2 => ?_, fun h2 => ?_⟩
        · have g2 := of_decide_eq_true h2
          try simp only [List.length_map] at g2
          refine ⟨by first | trivial | rfl | exact ⟨rfl, trivial⟩ | simp, ?_⟩
          refine ⟨?_, ?_⟩
          · first | (exact ⟨trivial, (by first | trivial | simp [frzOk]), ⟨(by first | (exact VW.int (wsucc (by omega)); done) | (exact VW.int rfl; done) | (exact VW.lst rfl rfl; done) | (exact VW.cptr rfl; done) | (exact VW.fn .nil; done) | (exact VW.bool rfl; done) | (exact VW.ptr rfl rfl; done) | (exact VW.sl rfl rfl rfl rfl; done) | (exact VW.no rfl; done) | (exact VW.eo rfl; done) | (exact VW.nils; done) | (exact VW.emp; done) | (exact VW.str rfl; done) | (exact VW.int (by first | (simp; done) | fail); done)), trivial⟩, trivial⟩; done) | (first | omega | contradiction | (simp_all; done); done)
          first | (exact ⟨trivial, rfl⟩; done) | (exact ⟨rfl, rfl⟩; done) | (trivial; done) | (rfl; done) | (first | omega | contradiction | (simp_all; done); done)
        · have g2 := of_decide_eq_false h2
          try simp only [List.length_map] at g2
          refine ⟨?_, ?_⟩
          · first | (exact ⟨trivial, (by first | trivial | simp [frzOk]), ⟨(by first | (exact VW.int (wsucc (by omega)); done) | (exact VW.int rfl; done) | (exact VW.lst rfl rfl; done) | (exact VW.cptr rfl; done) | (exact VW.fn .nil; done) | (exact VW.bool rfl; done) | (exact VW.ptr rfl rfl; done) | (exact VW.sl rfl rfl rfl rfl; done) | (exact VW.no rfl; done) | (exact VW.eo rfl; done) | (exact VW.nils; done) | (exact VW.emp; done) | (exact VW.str rfl; done) | (exact VW.int (by first | (simp; done) | fail); done)), (by first | (exact VW.int (wsucc (by omega)); done) | (exact VW.int rfl; done) | (exact VW.lst rfl rfl; done) | (exact VW.cptr rfl; done) | (exact VW.fn .nil; done) | (exact VW.bool rfl; done) | (exact VW.ptr rfl rfl; done) | (exact VW.sl rfl rfl rfl rfl; done) | (exact VW.no rfl; done) | (exact VW.eo rfl; done) | (exact VW.nils; done) | (exact VW.emp; done) | (exact VW.str rfl; done) | (exact VW.int (by first | (simp; done) | fail); done)), (by first | (exact VW.int (wsucc (by omega)); done) | (exact VW.int rfl; done) | (exact VW.lst rfl rfl; done) | (exact VW.cptr rfl; done) | (exact VW.fn .nil; done) | (exact VW.bool rfl; done) | (exact VW.ptr rfl rfl; done) | (exact VW.sl rfl rfl rfl rfl; done) | (exact VW.no rfl; done) | (exact VW.eo rfl; done) | (exact VW.nils; done) | (exact VW.emp; done) | (exact VW.str rfl; done) | (exact VW.int (by first | (simp; done) | fail); done)), trivial⟩, ⟨(by first | (exact bw_img; done) | (exact BW.tik rfl (by first | (simp; done) | omega); done)), trivial⟩⟩; done) | (first | omega | contradiction | (simp_all; done); done)
          first | (exact nx; done) | (first | omega | contradiction | (simp_all; done); done)
    · have g0 := of_decide_eq_false h0
      try simp only [List.length_map] at g0
      refine ⟨by first | trivial | rfl | exact ⟨rfl, trivial⟩ | simp, ?_⟩
      refine ⟨?_, ?_⟩
      · first | (exact ⟨trivial, (by first | trivial | simp [frzOk]), trivial, trivial⟩; done) | (first | omega | contradiction | (simp_all; done); done)
      first | (exact ⟨trivial, rfl⟩; done) | (exact ⟨rfl, rfl⟩; done) | (trivial; done) | (rfl; done) | (first | omega | contradiction | (simp_all; done); done)
  · refine round_ok env.mixed hC (by kernel_rfl) (r28c iso shr l m s x (x.c.length)) ?_
    simp only [Holds, Pv.Next]
    have hsz := hs.c
    rw [BB_eq] at hsz
    refine ⟨fun h0 => ?_, fun h0 => ?_⟩
    · have g0 := of_decide_eq_true h0
      try simp only [List.length_map] at g0
      refine ⟨?_, ?_⟩
      · first | (exact px26 (by omega); done) | (exact px27 (by omega); done) | (exact px28 (by omega); done) | (first | omega | contradiction | (simp_all; done); done)
      refine ⟨fun h1 => ?_, fun h1 => ?_⟩
      · have g1 := of_decide_eq_true h1
        try simp only [List.length_map] at g1
        refine ⟨by first | trivial | rfl | exact ⟨rfl, trivial⟩ | simp, ?_⟩
        refine ⟨?_, ?_⟩
        · first | (exact ⟨trivial, (by first | trivial | simp [frzOk]), ⟨(by first | (exact VW.int (wsucc (by omega)); done) | (exact VW.int rfl; done) | (exact VW.lst rfl rfl; done) | (exact VW.cptr rfl; done) | (exact VW.fn .nil; done) | (exact VW.bool rfl; done) | (exact VW.ptr rfl rfl; done) | (exact VW.sl rfl rfl rfl rfl; done) | (exact VW.no rfl; done) | (exact VW.eo rfl; done) | (exact VW.nils; done) | (exact VW.emp; done) | (exact VW.str rfl; done) | (exact VW.int (by first | (simp; done) | fail); done)), trivial⟩, trivial⟩; done) | (first | omega | contradiction | (simp_all; done); done)
        first | (exact ⟨trivial, rfl⟩; done) | (exact ⟨rfl, rfl⟩; done) | (trivial; done) | (rfl; done) | (first | omega | contradiction | (simp_all; done); done)
      · have g1 := of_decide_eq_false h1
        try simp only [List.length_map] at g1
        refine ⟨?_, ?_⟩
        · first | (exact px26 (by omega); done) | (exact px27 (by omega); done) | (exact px28 (by omega); done) | (first | omega | contradiction | (simp_all; done); done)
        refine ⟨fun h2 => ?_, fun h2 => ?_⟩
        · have g2 := of_decide_eq_true h2
          try simp only [List.length_map] at g2
          refine ⟨by first | trivial | rfl | exact ⟨rfl, trivial⟩ | simp, ?_⟩
          refine ⟨?_, ?_⟩
          · first | (exact ⟨trivial, (by first | trivial | simp [frzOk]), ⟨(by first | (exact VW.int (wsucc (by omega)); done) | (exact VW.int rfl; done) | (exact VW.lst rfl rfl; done) | (exact VW.cptr rfl; done) | (exact VW.fn .nil; done) | (exact VW.bool rfl; done) | (exact VW.ptr rfl rfl; done) | (exact VW.sl rfl rfl rfl rfl; done) | (exact VW.no rfl; done) | (exact VW.eo rfl; done) | (exact VW.nils; done) | (exact VW.emp; done) | (exact VW.str rfl; done) | (exact VW.int (by first | (simp; done) | fail); done)), trivial⟩, trivial⟩; done) | (first | omega | contradiction | (simp_all; done); done)
          first | (exact ⟨trivial, rfl⟩; done) | (exact ⟨rfl, rfl⟩; done) | (trivial; done) | (rfl; done) | (first | omega | contradiction | (simp_all; done); done)
        · have g2 := of_decide_eq_false h2
          try simp only [List.length_map] at g2
          refine ⟨?_, ?_⟩
          · first | (exact ⟨trivial, (by first | trivial | simp [frzOk]), ⟨(by first | (exact VW.int (wsucc (by omega)); done) | (exact VW.int rfl; done) | (exact VW.lst rfl rfl; done) | (exact VW.cptr rfl; done) | (exact VW.fn .nil; done) | (exact VW.bool rfl; done) | (exact VW.ptr rfl rfl; done) | (exact VW.sl rfl rfl rfl rfl; done) | (exact VW.no rfl; done) | (exact VW.eo rfl; done) | (exact VW.nils; done) | (exact VW.emp; done) | (exact VW.str rfl; done) | (exact VW.int (by first | (simp; done) | fail); done)), (by first | (exact VW.int (wsucc (by omega)); done) | (exact VW.int rfl; done) | (exact VW.lst rfl rfl; done) | (exact VW.cptr rfl; done) | (exact VW.fn .nil; done) | (exact VW.bool rfl; done) | (exact VW.ptr rfl rfl; done) | (exact VW.sl rfl rfl rfl rfl; done) | (exact VW.no rfl; done) | (exact VW.eo rfl; done) | (exact VW.nils; done) | (exact VW.emp; done) | (exact VW.str rfl; done) | (exact VW.int (by first | (simp; done) | fail); done)), (by first | (exact VW.int (wsucc (by omega)); done) | (exact VW.int rfl; done) | (exact VW.lst rfl rfl; done) | (exact VW.cptr rfl; done) | (exact VW.fn .nil; done) | (exact VW.bool rfl; done) | (exact VW.ptr rfl rfl; done) | (exact VW.sl rfl rfl rfl rfl; done) | (exact VW.no rfl; done) | (exact VW.eo rfl; done) | (exact VW.nils; done) | (exact VW.emp; done) | (exact VW.str rfl; done) | (exact VW.int (by first | (simp; done) | fail); done)), trivial⟩, ⟨(by first | (exact bw_img; done) | (exact BW.tik rfl (by first | (simp; done) | omega); done)), trivial⟩⟩; done) | (first | omega | contradiction | (simp_all; done); done)
          first | (exact nx; done) | (first | omega | contradiction | (simp_all; done); done)
    · have g0 := of_decide_eq_false h0
      try simp only [List.length_map] at g0
      refine ⟨by first | trivial | rfl | exact ⟨rfl, trivial⟩ | simp, ?_⟩
      refine ⟨?_, ?_⟩
      · first | (exact ⟨trivial, (by first | trivial | simp [frzOk]), trivial, trivial⟩; done) | (first | omega | contradiction | (simp_all; done); done)
      first | (exact ⟨trivial, rfl⟩; done) | (exact ⟨rfl, rfl⟩; done) | (trivial; done) | (rfl; done) | (first | omega | contradiction | (simp_all; done); done)
theorem ok28 (l : List Ins) (m s : Int) (x : Mc) (hs : Sm x) : Ok Tryd.prog X.G 28 [imgP l m s, x.pv] (.bool (fitM l m s x)) := by
  obtain ⟨iso, shr, hC⟩ : ∃ iso shr, OrcOk Tryd.prog X.G ⟨iso, shr, ownS X.sh, []⟩ := ⟨_, _, iso0⟩
  by_cases he : ∀ j, j < x.s.length - 1 → decide ((x.s.getD (j + 1) default).length ≤ 1000) = true
  · by_cases hc' : ∀ j, j < x.c.length → decide (0 ≤ (x.c.getD j default).site ∧ (x.c.getD j default).site < l.length) = true
    · refine wok env hC fd28 (t28a iso shr l m s x) ?_ hhS
      simp only [Holds]
      refine ⟨fun h0 => ?_, fun h0 => ?_⟩
      · have g0 := bne_iff_ne.1 h0
        try simp only [List.length_map] at g0
        refine ⟨fun h1 => ?_, fun h1 => ?_⟩
        · have g1 := bne_iff_ne.1 h1
          try simp only [List.length_map] at g1
          first | (exact fin_b (fit_d (by omega)); done) | (exact fin_b (by rw [← fit_4 (by omega) (fun j hj => by rw [drop1_getD]; exact he j (by rw [List.length_drop] at hj; omega)) hc']; exact (decide_eq_true (by omega)).symm); done) | (first | omega | contradiction | (simp_all; done); done)
        · have g1 := bne_eq_false_iff_eq.1 h1
          try simp only [List.length_map] at g1
          refine ⟨fun h2 => ?_, fun h2 => ?_⟩
          · have g2 := of_decide_eq_true h2
            try simp only [List.length_map] at g2
            first | (exact fin_b (fit_d (by omega)); done) | (exact fin_b (by rw [← fit_4 (by omega) (fun j hj => by rw [drop1_getD]; exact he j (by rw [List.length_drop] at hj; omega)) hc']; exact (decide_eq_true (by omega)).symm); done) | (first | omega | contradiction | (simp_all; done); done)
          · have g2 := of_decide_eq_false h2
            try simp only [List.length_map] at g2
            refine ⟨fun h3 => ?_, fun h3 => ?_⟩
            · have g3 := of_decide_eq_true h3
              try simp only [List.length_map] at g3
              first | (exact fin_b (fit_d (by omega)); done) | (exact fin_b (by rw [← fit_4 (by omega) (fun j hj => by rw [drop1_getD]; exact he j (by rw [List.length_drop] at hj; omega)) hc']; exact (decide_eq_true (by omega)).symm); done) | (first | omega | contradiction | (simp_all; done); done)
            · have g3 := of_decide_eq_false h3
              try simp only [List.length_map] at g3
              refine ⟨fun h4 => ?_, fun h4 => ?_⟩
              · have g4 := bne_iff_ne.1 h4
                try simp only [List.length_map] at g4
                first | (exact fin_b (fit_d (by omega)); done) | (exact fin_b (by rw [← fit_4 (by omega) (fun j hj => by rw [drop1_getD]; exact he j (by rw [List.length_drop] at hj; omega)) hc']; exact (decide_eq_true (by omega)).symm); done) | (first | omega | contradiction | (simp_all; done); done)
              · have g4 := bne_eq_false_iff_eq.1 h4
                try simp only [List.length_map] at g4
                refine ⟨fun h5 => ?_, fun h5 => ?_⟩
                · have g5 := bne_iff_ne.1 h5
                  try simp only [List.length_map] at g5
                  first | (exact fin_b (fit_d (by omega)); done) | (exact fin_b (by rw [← fit_4 (by omega) (fun j hj => by rw [drop1_getD]; exact he j (by rw [List.length_drop] at hj; omega)) hc']; exact (decide_eq_true (by omega)).symm); done) | (first | omega | contradiction | (simp_all; done); done)
                · have g5 := bne_eq_false_iff_eq.1 h5
                  try simp only [List.length_map] at g5
                  refine ⟨fun h6 => ?_, fun h6 => ?_⟩
                  · have g6 := of_decide_eq_true h6
                    try simp only [List.length_map] at g6
                    first | (exact fin_b (fit_d (by omega)); done) | (exact fin_b (by rw [← fit_4 (by omega) (fun j hj => by rw [drop1_getD]; exact he j (by rw [List.length_drop] at hj; omega)) hc']; exact (decide_eq_true (by omega)).symm); done) | (first | omega | contradiction | (simp_all; done); done)
                  · have g6 := of_decide_eq_false h6
                    try simp only [List.length_map] at g6
                    refine ⟨fun h7 => ?_, fun h7 => ?_⟩
                    · have g7 := of_decide_eq_true h7
                      try simp only [List.length_map] at g7
                      first | (exact fin_b (fit_d (by omega)); done) | (exact fin_b (by rw [← fit_4 (by omega) (fun j hj => by rw [drop1_getD]; exact he j (by rw [List.length_drop] at hj; omega)) hc']; exact (decide_eq_true (by omega)).symm); done) | (first | omega | contradiction | (simp_all; done); done)
                    · have g7 := of_decide_eq_false h7
                      try simp only [List.length_map] at g7
                      refine ⟨fun h8 => ?_, fun h8 => ?_⟩
                      · have g8 := of_decide_eq_true h8
                        try simp only [List.length_map] at g8
                        first | (exact fin_b (fit_d (by omega)); done) | (exact fin_b (by rw [← fit_4 (by omega) (fun j hj => by rw [drop1_getD]; exact he j (by rw [List.length_drop] at hj; omega)) hc']; exact (decide_eq_true (by omega)).symm); done) | (first | omega | contradiction | (simp_all; done); done)
                      · have g8 := of_decide_eq_false h8
                        try simp only [List.length_map] at g8
                        refine ⟨fun h9 => ?_, fun h9 => ?_⟩
                        · have g9 := of_decide_eq_true h9
                          try simp only [List.length_map] at g9
                          first | (exact fin_b (fit_d (by omega)); done) | (exact fin_b (by rw [← fit_4 (by omega) (fun j hj => by rw [drop1_getD]; exact he j (by rw [List.length_drop] at hj; omega)) hc']; exact (decide_eq_true (by omega)).symm); done) | (first | omega | contradiction | (simp_all; done); done)
                        · have g9 := of_decide_eq_false h9
                          try simp only [List.length_map] at g9
                          refine ⟨fun h10 => ?_, fun h10 => ?_⟩
                          · have g10 := of_decide_eq_true h10
                            try simp only [List.length_map] at g10
                            first | (exact fin_b (fit_d (by omega)); done) | (exact fin_b (by rw [← fit_4 (by omega) (fun j hj => by rw [drop1_getD]; exact he j (by rw [List.length_drop] at hj; omega)) hc']; exact (decide_eq_true (by omega)).symm); done) | (first | omega | contradiction | (simp_all; done); done)
                          · have g10 := of_decide_eq_false h10
                            try simp only [List.length_map] at g10
                            refine ⟨fun h11 => ?_, fun h11 => ?_⟩
                            · have g11 := of_decide_eq_true h11
                              try simp only [List.length_map] at g11
                              first | (exact fin_b (fit_d (by omega)); done) | (exact fin_b (by rw [← fit_4 (by omega) (fun j hj => by rw [drop1_getD]; exact he j (by rw [List.length_drop] at hj; omega)) hc']; exact (decide_eq_true (by omega)).symm); done) | (first | omega | contradiction | (simp_all; done); done)
                            · have g11 := of_decide_eq_false h11
                              try simp only [List.length_map] at g11
                              refine ⟨fun h12 => ?_, fun h12 => ?_⟩
                              · have g12 := of_decide_eq_true h12
                                try simp only [List.length_map] at g12
                                first | (exact fin_b (fit_d (by omega)); done) | (exact fin_b (by rw [← fit_4 (by omega) (fun j hj => by rw [drop1_getD]; exact he j (by rw [List.length_drop] at hj; omega)) hc']; exact (decide_eq_true (by omega)).symm); done) | (first | omega | contradiction | (simp_all; done); done)
                              · have g12 := of_decide_eq_false h12
                                try simp only [List.length_map] at g12
                                refine ⟨fun h13 => ?_, fun h13 => ?_⟩
                                · have g13 := of_decide_eq_true h13
                                  try simp only [List.length_map] at g13
                                  first | (exact fin_b (fit_d (by omega)); done) | (exact fin_b (by rw [← fit_4 (by omega) (fun j hj => by rw [drop1_getD]; exact he j (by rw [List.length_drop] at hj; omega)) hc']; exact (decide_eq_true (by omega)).symm); done) | (first | omega | contradiction | (simp_all; done); done)
                                · have g13 := of_decide_eq_false h13
                                  try simp only [List.length_map] at g13
                                  refine ⟨?_, ?_⟩
                                  · first | (exact ⟨trivial, (by first | trivial | simp [frzOk]), ⟨(by first | (exact VW.int (wsucc (by omega)); done) | (exact VW.int rfl; done) | (exact VW.lst rfl rfl; done) | (exact VW.cptr rfl; done) | (exact VW.fn .nil; done) | (exact VW.bool rfl; done) | (exact VW.ptr rfl rfl; done) | (exact VW.sl rfl rfl rfl rfl; done) | (exact VW.no rfl; done) | (exact VW.eo rfl; done) | (exact VW.nils; done) | (exact VW.emp; done) | (exact VW.str rfl; done) | (exact VW.int (by first | (simp; done) | fail); done)), (by first | (exact VW.int (wsucc (by omega)); done) | (exact VW.int rfl; done) | (exact VW.lst rfl rfl; done) | (exact VW.cptr rfl; done) | (exact VW.fn .nil; done) | (exact VW.bool rfl; done) | (exact VW.ptr rfl rfl; done) | (exact VW.sl rfl rfl rfl rfl; done) | (exact VW.no rfl; done) | (exact VW.eo rfl; done) | (exact VW.nils; done) | (exact VW.emp; done) | (exact VW.str rfl; done) | (exact VW.int (by first | (simp; done) | fail); done)), (by first | (exact VW.int (wsucc (by omega)); done) | (exact VW.int rfl; done) | (exact VW.lst rfl rfl; done) | (exact VW.cptr rfl; done) | (exact VW.fn .nil; done) | (exact VW.bool rfl; done) | (exact VW.ptr rfl rfl; done) | (exact VW.sl rfl rfl rfl rfl; done) | (exact VW.no rfl; done) | (exact VW.eo rfl; done) | (exact VW.nils; done) | (exact VW.emp; done) | (exact VW.str rfl; done) | (exact VW.int (by first | (simp; done) | fail); done)), trivial⟩, ⟨(by first | (exact bw_img; done) | (exact BW.tik rfl (by first | (simp; done) | omega); done)), trivial⟩⟩; done) | (first | omega | contradiction | (simp_all; done); done)
                                  refine ⟨?_, ?_⟩
                                  · first | (exact (lp28s iso shr hC l m s x (by omega) hs).1 he; done) | (first | omega | contradiction | (simp_all; done); done)
                                  refine ⟨?_, ?_⟩
                                  · first | (exact ⟨trivial, (by first | trivial | simp [frzOk]), ⟨(by first | (exact VW.int (wsucc (by omega)); done) | (exact VW.int rfl; done) | (exact VW.lst rfl rfl; done) | (exact VW.cptr rfl; done) | (exact VW.fn .nil; done) | (exact VW.bool rfl; done) | (exact VW.ptr rfl rfl; done) | (exact VW.sl rfl rfl rfl rfl; done) | (exact VW.no rfl; done) | (exact VW.eo rfl; done) | (exact VW.nils; done) | (exact VW.emp; done) | (exact VW.str rfl; done) | (exact VW.int (by first | (simp; done) | fail); done)), (by first | (exact VW.int (wsucc (by omega)); done) | (exact VW.int rfl; done) | (exact VW.lst rfl rfl; done) | (exact VW.cptr rfl; done) | (exact VW.fn .nil; done) | (exact VW.bool rfl; done) | (exact VW.ptr rfl rfl; done) | (exact VW.sl rfl rfl rfl rfl; done) | (exact VW.no rfl; done) | (exact VW.eo rfl; done) | (exact VW.nils; done) | (exact VW.emp; done) | (exact VW.str rfl; done) | (exact VW.int (by first | (simp; done) | fail); done)), (by first | (exact VW.int (wsucc (by omega)); done) | (exact VW.int rfl; done) | (exact VW.lst rfl rfl; done) | (exact VW.cptr rfl; done) | (exact VW.fn .nil; done) | (exact VW.bool rfl; done) | (exact VW.ptr rfl rfl; done) | (exact VW.sl rfl rfl rfl rfl; done) | (exact VW.no rfl; done) | (exact VW.eo rfl; done) | (exact VW.nils; done) | (exact VW.emp; done) | (exact VW.str rfl; done) | (exact VW.int (by first | (simp; done) | fail); done)), trivial⟩, ⟨(by first | (exact bw_img; done) | (exact BW.tik rfl (by first | (simp; done) | omega); done)), trivial⟩⟩; done) | (first | omega | contradiction | (simp_all; done); done)
                                  refine ⟨?_, ?_⟩
                                  · first | (exact (lp28c iso shr hC l m s x hs).1 hc'; done) | (first | omega | contradiction | (simp_all; done); done)
                                  first | (exact fin_b (fit_d (by omega)); done) | (exact fin_b (by rw [← fit_4 (by omega) (fun j hj => by rw [drop1_getD]; exact he j (by rw [List.length_drop] at hj; omega)) hc']; exact (decide_eq_true (by omega)).symm); done) | (first | omega | contradiction | (simp_all; done); done)
      · have g0 := bne_eq_false_iff_eq.1 h0
        try simp only [List.length_map] at g0
        refine ⟨fun h14 => ?_, fun h14 => ?_⟩
        · have g14 := of_decide_eq_true h14
          try simp only [List.length_map] at g14
          first | (exact fin_b (fit_d (by omega)); done) | (exact fin_b (by rw [← fit_4 (by omega) (fun j hj => by rw [drop1_getD]; exact he j (by rw [List.length_drop] at hj; omega)) hc']; exact (decide_eq_true (by omega)).symm); done) | (first | omega | contradiction | (simp_all; done); done)
        · have g14 := of_decide_eq_false h14
          try simp only [List.length_map] at g14
          refine ⟨fun h15 => ?_, fun h15 => ?_⟩
          · have g15 := of_decide_eq_true h15
            try simp only [List.length_map] at g15
            first | (exact fin_b (fit_d (by omega)); done) | (exact fin_b (by rw [← fit_4 (by omega) (fun j hj => by rw [drop1_getD]; exact he j (by rw [List.length_drop] at hj; omega)) hc']; exact (decide_eq_true (by omega)).symm); done) | (first | omega | contradiction | (simp_all; done); done)
          · have g15 := of_decide_eq_false h15
            try simp only [List.length_map] at g15
            refine ⟨fun h16 => ?_, fun h16 => ?_⟩
            · have g16 := bne_iff_ne.1 h16
              try simp only [List.length_map] at g16
              first | (exact fin_b (fit_d (by omega)); done) | (exact fin_b (by rw [← fit_4 (by omega) (fun j hj => by rw [drop1_getD]; exact he j (by rw [List.length_drop] at hj; omega)) hc']; exact (decide_eq_true (by omega)).symm); done) | (first | omega | contradiction | (simp_all; done); done)
            · have g16 := bne_eq_false_iff_eq.1 h16
              try simp only [List.length_map] at g16
              refine ⟨fun h17 => ?_, fun h17 => ?_⟩
              · have g17 := bne_iff_ne.1 h17
                try simp only [List.length_map] at g17
                first | (exact fin_b (fit_d (by omega)); done) | (exact fin_b (by rw [← fit_4 (by omega) (fun j hj => by rw [drop1_getD]; exact he j (by rw [List.length_drop] at hj; omega)) hc']; exact (decide_eq_true (by omega)).symm); done) | (first | omega | contradiction | (simp_all; done); done)
              · have g17 := bne_eq_false_iff_eq.1 h17
                try simp only [List.length_map] at g17
                refine ⟨fun h18 => ?_, fun h18 => ?_⟩
                · have g18 := of_decide_eq_true h18
                  try simp only [List.length_map] at g18
                  first | (exact fin_b (fit_d (by omega)); done) | (exact fin_b (by rw [← fit_4 (by omega) (fun j hj => by rw [drop1_getD]; exact he j (by rw [List.length_drop] at hj; omega)) hc']; exact (decide_eq_true (by omega)).symm); done) | (first | omega | contradiction | (simp_all; done); done)
                · have g18 := of_decide_eq_false h18
                  try simp only [List.length_map] at g18
                  refine ⟨fun h19 => ?_, fun h19 => ?_⟩
                  · have g19 := of_decide_eq_true h19
                    try simp only [List.length_map] at g19
                    first | (exact fin_b (fit_d (by omega)); done) | (exact fin_b (by rw [← fit_4 (by omega) (fun j hj => by rw [drop1_getD]; exact he j (by rw [List.length_drop] at hj; omega)) hc']; exact (decide_eq_true (by omega)).symm); done) | (first | omega | contradiction | (simp_all; done); done)
                  · have g19 := of_decide_eq_false h19
                    try simp only [List.length_map] at g19
                    refine ⟨fun h20 => ?_, fun h20 => ?_⟩
                    · have g20 := of_decide_eq_true h20
                      try simp only [List.length_map] at g20
                      first | (exact fin_b (fit_d (by omega)); done) | (exact fin_b (by rw [← fit_4 (by omega) (fun j hj => by rw [drop1_getD]; exact he j (by rw [List.length_drop] at hj; omega)) hc']; exact (decide_eq_true (by omega)).symm); done) | (first | omega | contradiction | (simp_all; done); done)
                    · have g20 := of_decide_eq_false h20
                      try simp only [List.length_map] at g20
                      refine ⟨fun h21 => ?_, fun h21 => ?_⟩
                      · have g21 := of_decide_eq_true h21
                        try simp only [List.length_map] at g21
                        first | (exact fin_b (fit_d (by omega)); done) | (exact fin_b (by rw [← fit_4 (by omega) (fun j hj => by rw [drop1_getD]; exact he j (by rw [List.length_drop] at hj; omega)) hc']; exact (decide_eq_true (by omega)).symm); done) | (first | omega | contradiction | (simp_all; done); done)
                      · have g21 := of_decide_eq_false h21
                        try simp only [List.length_map] at g21
                        refine ⟨fun h22 => ?_, fun h22 => ?_⟩
                        · have g22 := of_decide_eq_true h22
                          try simp only [List.length_map] at g22
                          first | (exact fin_b (fit_d (by omega)); done) | (exact fin_b (by rw [← fit_4 (by omega) (fun j hj => by rw [drop1_getD]; exact he j (by rw [List.length_drop] at hj; omega)) hc']; exact (decide_eq_true (by omega)).symm); done) | (first | omega | contradiction | (simp_all; done); done)
                        · have g22 := of_decide_eq_false h22
                          try simp only [List.length_map] at g22
                          refine ⟨fun h23 => ?_, fun h23 => ?_⟩
                          · have g23 := of_decide_eq_true h23
                            try simp only [List.length_map] at g23
                            first | (exact fin_b (fit_d (by omega)); done) | (exact fin_b (by rw [← fit_4 (by omega) (fun j hj => by rw [drop1_getD]; exact he j (by rw [List.length_drop] at hj; omega)) hc']; exact (decide_eq_true (by omega)).symm); done) | (first | omega | contradiction | (simp_all; done); done)
                          · have g23 := of_decide_eq_false h23
                            try simp only [List.length_map] at g23
                            refine ⟨fun h24 => ?_, fun h24 => ?_⟩
                            · have g24 := of_decide_eq_true h24
                              try simp only [List.length_map] at g24
                              first | (exact fin_b (fit_d (by omega)); done) | (exact fin_b (by rw [← fit_4 (by omega) (fun j hj => by rw [drop1_getD]; exact he j (by rw [List.length_drop] at hj; omega)) hc']; exact (decide_eq_true (by omega)).symm); done) | (first | omega | contradiction | (simp_all; done); done)
                            · have g24 := of_decide_eq_false h24
                              try simp only [List.length_map] at g24
                              refine ⟨fun h25 => ?_, fun h25 => ?_⟩
                              · have g25 := of_decide_eq_true h25
                                try simp only [List.length_map] at g25
                                first | (exact fin_b (fit_d (by omega)); done) | (exact fin_b (by rw [← fit_4 (by omega) (fun j hj => by rw [drop1_getD]; exact he j (by rw [List.length_drop] at hj; omega)) hc']; exact (decide_eq_true (by omega)).symm); done) | (first | omega | contradiction | (simp_all; done); done)
                              · have g25 := of_decide_eq_false h25
                                try simp only [List.length_map] at g25
                                refine ⟨?_, ?_⟩
                                · first | (exact ⟨trivial, (by first | trivial | simp [frzOk]), ⟨(by first | (exact VW.int (wsucc (by omega)); done) | (exact VW.int rfl; done) | (exact VW.lst rfl rfl; done) | (exact VW.cptr rfl; done) | (exact VW.fn .nil; done) | (exact VW.bool rfl; done) | (exact VW.ptr rfl rfl; done) | (exact VW.sl rfl rfl rfl rfl; done) | (exact VW.no rfl; done) | (exact VW.eo rfl; done) | (exact VW.nils; done) | (exact VW.emp; done) | (exact VW.str rfl; done) | (exact VW.int (by first | (simp; done) | fail); done)), (by first | (exact VW.int (wsucc (by omega)); done) | (exact VW.int rfl; done) | (exact VW.lst rfl rfl; done) | (exact VW.cptr rfl; done) | (exact VW.fn .nil; done) | (exact VW.bool rfl; done) | (exact VW.ptr rfl rfl; done) | (exact VW.sl rfl rfl rfl rfl; done) | (exact VW.no rfl; done) | (exact VW.eo rfl; done) | (exact VW.nils; done) | (exact VW.emp; done) | (exact VW.str rfl; done) | (exact VW.int (by first | (simp; done) | fail); done)), (by first | (exact VW.int (wsucc (by omega)); done) | (exact VW.int rfl; done) | (exact VW.lst rfl rfl; done) | (exact VW.cptr rfl; done) | (exact VW.fn .nil; done) | (exact VW.bool rfl; done) | (exact VW.ptr rfl rfl; done) | (exact VW.sl rfl rfl rfl rfl; done) | (exact VW.no rfl; done) | (exact VW.eo rfl; done) | (exact VW.nils; done) | (exact VW.emp; done) | (exact VW.str rfl; done) | (exact VW.int (by first | (simp; done) | fail); done)), trivial⟩, ⟨(by first | (exact bw_img; done) | (exact BW.tik rfl (by first | (simp; done) | omega); done)), trivial⟩⟩; done) | (first | omega | contradiction | (simp_all; done); done)
                                refine ⟨?_, ?_⟩
                                · first | (exact (lp28s iso shr hC l m s x (by omega) hs).1 he; done) | (first | omega | contradiction | (simp_all; done); done)
                                refine ⟨?_, ?_⟩
                                · first | (exact ⟨trivial, (by first | trivial | simp [frzOk]), ⟨(by first | (exact VW.int (wsucc (by omega)); done) | (exact VW.int rfl; done) | (exact VW.lst rfl rfl; done) | (exact VW.cptr rfl; done) | (exact VW.fn .nil; done) | (exact VW.bool rfl; done) | (exact VW.ptr rfl rfl; done) | (exact VW.sl rfl rfl rfl rfl; done) | (exact VW.no rfl; done) | (exact VW.eo rfl; done) | (exact VW.nils; done) | (exact VW.emp; done) | (exact VW.str rfl; done) | (exact VW.int (by first | (simp; done) | fail); done)), (by first | (exact VW.int (wsucc (by omega)); done) | (exact VW.int rfl; done) | (exact VW.lst rfl rfl; done) | (exact VW.cptr rfl; done) | (exact VW.fn .nil; done) | (exact VW.bool rfl; done) | (exact VW.ptr rfl rfl; done) | (exact VW.sl rfl rfl rfl rfl; done) | (exact VW.no rfl; done) | (exact VW.eo rfl; done) | (exact VW.nils; done) | (exact VW.emp; done) | (exact VW.str rfl; done) | (exact VW.int (by first | (simp; done) | fail); done)), (by first | (exact VW.int (wsucc (by omega)); done) | (exact VW.int rfl; done) | (exact VW.lst rfl rfl; done) | (exact VW.cptr rfl; done) | (exact VW.fn .nil; done) | (exact VW.bool rfl; done) | (exact VW.ptr rfl rfl; done) | (exact VW.sl rfl rfl rfl rfl; done) | (exact VW.no rfl; done) | (exact VW.eo rfl; done) | (exact VW.nils; done) | (exact VW.emp; done) | (exact VW.str rfl; done) | (exact VW.int (by first | (simp; done) | fail); done)), trivial⟩, ⟨(by first | (exact bw_img; done) | (exact BW.tik rfl (by first | (simp; done) | omega); done)), trivial⟩⟩; done) | (first | omega | contradiction | (simp_all; done); done)
                                refine ⟨?_, ?_⟩
                                · first | (exact (lp28c iso shr hC l m s x hs).1 hc'; done) | (first | omega | contradiction | (simp_all; done); done)
                                first | (exact fin_b (fit_d (by omega)); done) | (exact fin_b (by rw [← fit_4 (by omega) (fun j hj => by rw [drop1_getD]; exact he j (by rw [List.length_drop] at hj; omega)) hc']; exact (decide_eq_true (by omega)).symm); done) | (first | omega | contradiction | (simp_all; done); done)
    · obtain ⟨j, j1, j2, j3⟩ := first_false hc'
      refine wok env hC fd28 (t28c iso shr l m s x j) ?_ hhS
      simp only [Holds]
      refine ⟨fun h0 => ?_, fun h0 => ?_⟩
      · have g0 := bne_iff_ne.1 h0
        try simp only [List.length_map] at g0
        refine ⟨fun h1 => ?_, fun h1 => ?_⟩
        · have g1 := bne_iff_ne.1 h1
          try simp only [List.length_map] at g1
          first | (exact fin_b (fit_d (by omega)); done) | (exact fin_b (fit_3 j1 j2); done) | (first | omega | contradiction | (simp_all; done); done)
        · have g1 := bne_eq_false_iff_eq.1 h1
          try simp only [List.length_map] at g1
          refine ⟨fun h2 => ?_, fun h2 => ?_⟩
          · have g2 := of_decide_eq_true h2
            try simp only [List.length_map] at g2
            first | (exact fin_b (fit_d (by omega)); done) | (exact fin_b (fit_3 j1 j2); done) | (first | omega | contradiction | (simp_all; done); done)
          · have g2 := of_decide_eq_false h2
            try simp only [List.length_map] at g2
            refine ⟨fun h3 => ?_, fun h3 => ?_⟩
            · have g3 := of_decide_eq_true h3
              try simp only [List.length_map] at g3
              first | (exact fin_b (fit_d (by omega)); done) | (exact fin_b (fit_3 j1 j2); done) | (first | omega | contradiction | (simp_all; done); done)
            · have g3 := of_decide_eq_false h3
              try simp only [List.length_map] at g3
              refine ⟨fun h4 => ?_, fun h4 => ?_⟩
              · have g4 := bne_iff_ne.1 h4
                try simp only [List.length_map] at g4
                first | (exact fin_b (fit_d (by omega)); done) | (exact fin_b (fit_3 j1 j2); done) | (first | omega | contradiction | (simp_all; done); done)
              · have g4 := bne_eq_false_iff_eq.1 h4
                try simp only [List.length_map] at g4
                refine ⟨fun h5 => ?_, fun h5 => ?_⟩
                · have g5 := bne_iff_ne.1 h5
                  try simp only [List.length_map] at g5
                  first | (exact fin_b (fit_d (by omega)); done) | (exact fin_b (fit_3 j1 j2); done) | (first | omega | contradiction | (simp_all; done); done)
                · have g5 := bne_eq_false_iff_eq.1 h5
                  try simp only [List.length_map] at g5
                  refine ⟨fun h6 => ?_, fun h6 => ?_⟩
                  · have g6 := of_decide_eq_true h6
                    try simp only [List.length_map] at g6
                    first | (exact fin_b (fit_d (by omega)); done) | (exact fin_b (fit_3 j1 j2); done) | (first | omega | contradiction | (simp_all; done); done)
                  · have g6 := of_decide_eq_false h6
                    try simp only [List.length_map] at g6
                    refine ⟨fun h7 => ?_, fun h7 => ?_⟩
                    · have g7 := of_decide_eq_true h7
                      try simp only [List.length_map] at g7
                      first | (exact fin_b (fit_d (by omega)); done) | (exact fin_b (fit_3 j1 j2); done) | (first | omega | contradiction | (simp_all; done); done)
                    · have g7 := of_decide_eq_false h7
                      try simp only [List.length_map] at g7
                      refine ⟨fun h8 => ?_, fun h8 => ?_⟩
                      · have g8 := of_decide_eq_true h8
                        try simp only [List.length_map] at g8
                        first | (exact fin_b (fit_d (by omega)); done) | (exact fin_b (fit_3 j1 j2); done) | (first | omega | contradiction | (simp_all; done); done)
                      · have g8 := of_decide_eq_false h8
                        try simp only [List.length_map] at g8
                        refine ⟨fun h9 => ?_, fun h9 => ?_⟩
                        · have g9 := of_decide_eq_true h9
                          try simp only [List.length_map] at g9
                          first | (exact fin_b (fit_d (by omega)); done) | (exact fin_b (fit_3 j1 j2); done) | (first | omega | contradiction | (simp_all; done); done)
                        · have g9 := of_decide_eq_false h9
                          try simp only [List.length_map] at g9
                          refine ⟨fun h10 => ?_, fun h10 => ?_⟩
                          · have g10 := of_decide_eq_true h10
                            try simp only [List.length_map] at g10
                            first | (exact fin_b (fit_d (by omega)); done) | (exact fin_b (fit_3 j1 j2); done) | (first | omega | contradiction | (simp_all; done); done)
                          · have g10 := of_decide_eq_false h10
                            try simp only [List.length_map] at g10
                            refine ⟨fun h11 => ?_, fun h11 => ?_⟩
                            · have g11 := of_decide_eq_true h11
                              try simp only [List.length_map] at g11
                              first | (exact fin_b (fit_d (by omega)); done) | (exact fin_b (fit_3 j1 j2); done) | (first | omega | contradiction | (simp_all; done); done)
                            · have g11 := of_decide_eq_false h11
                              try simp only [List.length_map] at g11
                              refine ⟨fun h12 => ?_, fun h12 => ?_⟩
                              · have g12 := of_decide_eq_true h12
                                try simp only [List.length_map] at g12
                                first | (exact fin_b (fit_d (by omega)); done) | (exact fin_b (fit_3 j1 j2); done) | (first | omega | contradiction | (simp_all; done); done)
                              · have g12 := of_decide_eq_false h12
                                try simp only [List.length_map] at g12
                                refine ⟨fun h13 => ?_, fun h13 => ?_⟩
                                · have g13 := of_decide_eq_true h13
                                  try simp only [List.length_map] at g13
                                  first | (exact fin_b (fit_d (by omega)); done) | (exact fin_b (fit_3 j1 j2); done) | (first | omega | contradiction | (simp_all; done); done)
                                · have g13 := of_decide_eq_false h13
                                  try simp only [List.length_map] at g13
                                  refine ⟨?_, ?_⟩
                                  · first | (exact ⟨trivial, (by first | trivial | simp [frzOk]), ⟨(by first | (exact VW.int (wsucc (by omega)); done) | (exact VW.int rfl; done) | (exact VW.lst rfl rfl; done) | (exact VW.cptr rfl; done) | (exact VW.fn .nil; done) | (exact VW.bool rfl; done) | (exact VW.ptr rfl rfl; done) | (exact VW.sl rfl rfl rfl rfl; done) | (exact VW.no rfl; done) | (exact VW.eo rfl; done) | (exact VW.nils; done) | (exact VW.emp; done) | (exact VW.str rfl; done) | (exact VW.int (by first | (simp; done) | fail); done)), (by first | (exact VW.int (wsucc (by omega)); done) | (exact VW.int rfl; done) | (exact VW.lst rfl rfl; done) | (exact VW.cptr rfl; done) | (exact VW.fn .nil; done) | (exact VW.bool rfl; done) | (exact VW.ptr rfl rfl; done) | (exact VW.sl rfl rfl rfl rfl; done) | (exact VW.no rfl; done) | (exact VW.eo rfl; done) | (exact VW.nils; done) | (exact VW.emp; done) | (exact VW.str rfl; done) | (exact VW.int (by first | (simp; done) | fail); done)), (by first | (exact VW.int (wsucc (by omega)); done) | (exact VW.int rfl; done) | (exact VW.lst rfl rfl; done) | (exact VW.cptr rfl; done) | (exact VW.fn .nil; done) | (exact VW.bool rfl; done) | (exact VW.ptr rfl rfl; done) | (exact VW.sl rfl rfl rfl rfl; done) | (exact VW.no rfl; done) | (exact VW.eo rfl; done) | (exact VW.nils; done) | (exact VW.emp; done) | (exact VW.str rfl; done) | (exact VW.int (by first | (simp; done) | fail); done)), trivial⟩, ⟨(by first | (exact bw_img; done) | (exact BW.tik rfl (by first | (simp; done) | omega); done)), trivial⟩⟩; done) | (first | omega | contradiction | (simp_all; done); done)
                                  refine ⟨?_, ?_⟩
                                  · first | (exact (lp28s iso shr hC l m s x (by omega) hs).1 he; done) | (first | omega | contradiction | (simp_all; done); done)
                                  refine ⟨?_, ?_⟩
                                  · first | (exact ⟨trivial, (by first | trivial | simp [frzOk]), ⟨(by first | (exact VW.int (wsucc (by omega)); done) | (exact VW.int rfl; done) | (exact VW.lst rfl rfl; done) | (exact VW.cptr rfl; done) | (exact VW.fn .nil; done) | (exact VW.bool rfl; done) | (exact VW.ptr rfl rfl; done) | (exact VW.sl rfl rfl rfl rfl; done) | (exact VW.no rfl; done) | (exact VW.eo rfl; done) | (exact VW.nils; done) | (exact VW.emp; done) | (exact VW.str rfl; done) | (exact VW.int (by first | (simp; done) | fail); done)), (by first | (exact VW.int (wsucc (by omega)); done) | (exact VW.int rfl; done) | (exact VW.lst rfl rfl; done) | (exact VW.cptr rfl; done) | (exact VW.fn .nil; done) | (exact VW.bool rfl; done) | (exact VW.ptr rfl rfl; done) | (exact VW.sl rfl rfl rfl rfl; done) | (exact VW.no rfl; done) | (exact VW.eo rfl; done) | (exact VW.nils; done) | (exact VW.emp; done) | (exact VW.str rfl; done) | (exact VW.int (by first | (simp; done) | fail); done)), (by first | (exact VW.int (wsucc (by omega)); done) | (exact VW.int rfl; done) | (exact VW.lst rfl rfl; done) | (exact VW.cptr rfl; done) | (exact VW.fn .nil; done) | (exact VW.bool rfl; done) | (exact VW.ptr rfl rfl; done) | (exact VW.sl rfl rfl rfl rfl; done) | (exact VW.no rfl; done) | (exact VW.eo rfl; done) | (exact VW.nils; done) | (exact VW.emp; done) | (exact VW.str rfl; done) | (exact VW.int (by first | (simp; done) | fail); done)), trivial⟩, ⟨(by first | (exact bw_img; done) | (exact BW.tik rfl (by first | (simp; done) | omega); done)), trivial⟩⟩; done) | (first | omega | contradiction | (simp_all; done); done)
                                  refine ⟨?_, ?_⟩
                                  · first | (exact (lp28c iso shr hC l m s x hs).2 j j1 j2 j3; done) | (first | omega | contradiction | (simp_all; done); done)
                                  first | (exact fin_b (fit_d (by omega)); done) | (exact fin_b (fit_3 j1 j2); done) | (first | omega | contradiction | (simp_all; done); done)
      · have g0 := bne_eq_false_iff_eq.1 h0
        try simp only [List.length_map] at g0
        refine ⟨fun h14 => ?_, fun h14 => ?_⟩
        · have g14 := of_decide_eq_true h14
          try simp only [List.length_map] at g14
          first | (exact fin_b (fit_d (by omega)); done) | (exact fin_b (fit_3 j1 j2); done) | (first | omega | contradiction | (simp_all; done); done)
        · have g14 := of_decide_eq_false h14
          try simp only [List.length_map] at g14
          refine ⟨fun h15 => ?_, fun h15 => ?_⟩
          · have g15 := of_decide_eq_true h15
            try simp only [List.length_map] at g15
            first | (exact fin_b (fit_d (by omega)); done) | (exact fin_b (fit_3 j1 j2); done) | (first | omega | contradiction | (simp_all; done); done)
          · have g15 := of_decide_eq_false h15
            try simp only [List.length_map] at g15
            refine ⟨fun h16 => ?_, fun h16 => ?_⟩
            · have g16 := bne_iff_ne.1 h16
              try simp only [List.length_map] at g16
              first | (exact fin_b (fit_d (by omega)); done) | (exact fin_b (fit_3 j1 j2); done) | (first | omega | contradiction | (simp_all; done); done)
            · have g16 := bne_eq_false_iff_eq.1 h16
              try simp only [List.length_map] at g16
              refine ⟨fun h17 => ?_, fun h17 => ?_⟩
              · have g17 := bne_iff_ne.1 h17
                try simp only [List.length_map] at g17
                first | (exact fin_b (fit_d (by omega)); done) | (exact fin_b (fit_3 j1 j2); done) | (first | omega | contradiction | (simp_all; done); done)
              · have g17 := bne_eq_false_iff_eq.1 h17
                try simp only [List.length_map] at g17
                refine ⟨fun h18 => ?_, fun h18 => ?_⟩
                · have g18 := of_decide_eq_true h18
                  try simp only [List.length_map] at g18
                  first | (exact fin_b (fit_d (by omega)); done) | (exact fin_b (fit_3 j1 j2); done) | (first | omega | contradiction | (simp_all; done); done)
                · have g18 := of_decide_eq_false h18
                  try simp only [List.length_map] at g18
                  refine ⟨fun h19 => ?_, fun h19 => ?_⟩
                  · have g19 := of_decide_eq_true h19
                    try simp only [List.length_map] at g19
                    first | (exact fin_b (fit_d (by omega)); done) | (exact fin_b (fit_3 j1 j2); done) | (first | omega | contradiction | (simp_all; done); done)
                  · have g19 := of_decide_eq_false h19
                    try simp only [List.length_map] at g19
                    refine ⟨fun h20 => ?_, fun h20 => ?_⟩
                    · have g20 := of_decide_eq_true h20
                      try simp only [List.length_map] at g20
                      first | (exact fin_b (fit_d (by omega)); done) | (exact fin_b (fit_3 j1 j2); done) | (first | omega | contradiction | (simp_all; done); done)
                    · have g20 := of_decide_eq_false h20
                      try simp only [List.length_map] at g20
                      refine ⟨fun h21 => ?_, fun h21 => ?_⟩
                      · have g21 := of_decide_eq_true h21
                        try simp only [List.length_map] at g21
                        first | (exact fin_b (fit_d (by omega)); done) | (exact fin_b (fit_3 j1 j2); done) | (first | omega | contradiction | (simp_all; done); done)
                      · have g21 := of_decide_eq_false h21
                        try simp only [List.length_map] at g21
                        refine ⟨fun h22 => ?_, fun h22 => ?_⟩
                        · have g22 := of_decide_eq_true h22
                          try simp only [List.length_map] at g22
                          first | (exact fin_b (fit_d (by omega)); done) | (exact fin_b (fit_3 j1 j2); done) | (first | omega | contradiction | (simp_all; done); done)
                        · have g22 := of_decide_eq_false h22
                          try simp only [List.length_map] at g22
                          refine ⟨fun h23 => ?_, fun h23 => ?_⟩
                          · have g23 := of_decide_eq_true h23
                            try simp only [List.length_map] at g23
                            first | (exact fin_b (fit_d (by omega)); done) | (exact fin_b (fit_3 j1 j2); done) | (first | omega | contradiction | (simp_all; done); done)
                          · have g23 := of_decide_eq_false h23
                            try simp only [List.length_map] at g23
                            refine ⟨fun h24 => ?_, fun h24 => ?_⟩
                            · have g24 := of_decide_eq_true h24
                              try simp only [List.length_map] at g24
                              first | (exact fin_b (fit_d (by omega)); done) | (exact fin_b (fit_3 j1 j2); done) | (first | omega | contradiction | (simp_all; done); done)
                            · have g24 := of_decide_eq_false h24
                              try simp only [List.length_map] at g24
                              refine ⟨fun h25 => ?_, fun h25 => ?_⟩
                              · have g25 := of_decide_eq_true h25
                                try simp only [List.length_map] at g25
                                first | (exact fin_b (fit_d (by omega)); done) | (exact fin_b (fit_3 j1 j2); done) | (first | omega | contradiction | (simp_all; done); done)
                              · have g25 := of_decide_eq_false h25
                                try simp only [List.length_map] at g25
                                refine ⟨?_, ?_⟩
                                · first | (exact ⟨trivial, (by first | trivial | simp [frzOk]), ⟨(by first | (exact VW.int (wsucc (by omega)); done) | (exact VW.int rfl; done) | (exact VW.lst rfl rfl; done) | (exact VW.cptr rfl; done) | (exact VW.fn .nil; done) | (exact VW.bool rfl; done) | (exact VW.ptr rfl rfl; done) | (exact VW.sl rfl rfl rfl rfl; done) | (exact VW.no rfl; done) | (exact VW.eo rfl; done) | (exact VW.nils; done) | (exact VW.emp; done) | (exact VW.str rfl; done) | (exact VW.int (by first | (simp; done) | fail); done)), (by first | (exact VW.int (wsucc (by omega)); done) | (exact VW.int rfl; done) | (exact VW.lst rfl rfl; done) | (exact VW.cptr rfl; done) | (exact VW.fn .nil; done) | (exact VW.bool rfl; done) | (exact VW.ptr rfl rfl; done) | (exact VW.sl rfl rfl rfl rfl; done) | (exact VW.no rfl; done) | (exact VW.eo rfl; done) | (exact VW.nils; done) | (exact VW.emp; done) | (exact VW.str rfl; done) | (exact VW.int (by first | (simp; done) | fail); done)), (by first | (exact VW.int (wsucc (by omega)); done) | (exact VW.int rfl; done) | (exact VW.lst rfl rfl; done) | (exact VW.cptr rfl; done) | (exact VW.fn .nil; done) | (exact VW.bool rfl; done) | (exact VW.ptr rfl rfl; done) | (exact VW.sl rfl rfl rfl rfl; done) | (exact VW.no rfl; done) | (exact VW.eo rfl; done) | (exact VW.nils; done) | (exact VW.emp; done) | (exact VW.str rfl; done) | (exact VW.int (by first | (simp; done) | fail); done)), trivial⟩, ⟨(by first | (exact bw_img; done) | (exact BW.tik rfl (by first | (simp; done) | omega); done)), trivial⟩⟩; done) | (first | omega | contradiction | (simp_all; done); done)
                                refine ⟨?_, ?_⟩
                                · first | (exact (lp28s iso shr hC l m s x (by omega) hs).1 he; done) | (first | omega | contradiction | (simp_all; done); done)
                                refine ⟨?_, ?_⟩
                                · first | (exact ⟨trivial, (by first | trivial | simp [frzOk]), ⟨(by first | (exact VW.int (wsucc (by omega)); done) | (exact VW.int rfl; done) | (exact VW.lst rfl rfl; done) | (exact VW.cptr rfl; done) | (exact VW.fn .nil; done) | (exact VW.bool rfl; done) | (exact VW.ptr rfl rfl; done) | (exact VW.sl rfl rfl rfl rfl; done) | (exact VW.no rfl; done) | (exact VW.eo rfl; done) | (exact VW.nils; done) | (exact VW.emp; done) | (exact VW.str rfl; done) | (exact VW.int (by first | (simp; done) | fail); done)), (by first | (exact VW.int (wsucc (by omega)); done) | (exact VW.int rfl; done) | (exact VW.lst rfl rfl; done) | (exact VW.cptr rfl; done) | (exact VW.fn .nil; done) | (exact VW.bool rfl; done) | (exact VW.ptr rfl rfl; done) | (exact VW.sl rfl rfl rfl rfl; done) | (exact VW.no rfl; done) | (exact VW.eo rfl; done) | (exact VW.nils; done) | (exact VW.emp; done) | (exact VW.str rfl; done) | (exact VW.int (by first | (simp; done) | fail); done)), (by first | (exact VW.int (wsucc (by omega)); done) | (exact VW.int rfl; done) | (exact VW.lst rfl rfl; done) | (exact VW.cptr rfl; done) | (exact VW.fn .nil; done) | (exact VW.bool rfl; done) | (exact VW.ptr rfl rfl; done) | (exact VW.sl rfl rfl rfl rfl; done) | (exact VW.no rfl; done) | (exact VW.eo rfl; done) | (exact VW.nils; done) | (exact VW.emp; done) | (exact VW.str rfl; done) | (exact VW.int (by first | (simp; done) | fail); done)), trivial⟩, ⟨(by first | (exact bw_img; done) | (exact BW.tik rfl (by first | (simp; done) | omega); done)), trivial⟩⟩; done) | (first | omega | contradiction | (simp_all; done); done)
                                refine ⟨?_, ?_⟩
                                · first | (exact (lp28c iso shr hC l m s x hs).2 j j1 j2 j3; done) | (first | omega | contradiction | (simp_all; done); done)
                                first | (exact fin_b (fit_d (by omega)); done) | (exact fin_b (fit_3 j1 j2); done) | (first | omega | contradiction | (simp_all; done); done)
  · obtain ⟨j, j1, j2, j3⟩ := first_false he
    refine wok env hC fd28 (t28b iso shr l m s x j) ?_ hhS
    simp only [Holds]
    refine ⟨fun h0 => ?_, fun h0 => ?_⟩
    · have g0 := bne_iff_ne.1 h0
      try simp only [List.length_map] at g0
      refine ⟨fun h1 => ?_, fun h1 => ?_⟩
      · have g1 := bne_iff_ne.1 h1
        try simp only [List.length_map] at g1
        first | (exact fin_b (fit_d (by omega)); done) | (exact fin_b (fit_2 (j := j) (by rw [List.length_drop]; omega) (by rw [drop1_getD]; exact j2)); done) | (first | omega | contradiction | (simp_all; done); done)
      · have g1 := bne_eq_false_iff_eq.1 h1
        try simp only [List.length_map] at g1
        refine ⟨fun h2 => ?_, fun h2 => ?_⟩
        · have g2 := of_decide_eq_true h2
          try simp only [List.length_map] at g2
          first | (exact fin_b (fit_d (by omega)); done) | (exact fin_b (fit_2 (j := j) (by rw [List.length_drop]; omega) (by rw [drop1_getD]; exact j2)); done) | (first | omega | contradiction | (simp_all; done); done)
        · have g2 := of_decide_eq_false h2
          try simp only [List.length_map] at g2
          refine ⟨fun h3 => ?_, fun h3 => ?_⟩
          · have g3 := of_decide_eq_true h3
            try simp only [List.length_map] at g3
            first | (exact fin_b (fit_d (by omega)); done) | (exact fin_b (fit_2 (j := j) (by rw [List.length_drop]; omega) (by rw [drop1_getD]; exact j2)); done) | (first | omega | contradiction | (simp_all; done); done)
          · have g3 := of_decide_eq_false h3
            try simp only [List.length_map] at g3
            refine ⟨fun h4 => ?_, fun h4 => ?_⟩
            · have g4 := bne_iff_ne.1 h4
              try simp only [List.length_map] at g4
              first | (exact fin_b (fit_d (by omega)); done) | (exact fin_b (fit_2 (j := j) (by rw [List.length_drop]; omega) (by rw [drop1_getD]; exact j2)); done) | (first | omega | contradiction | (simp_all; done); done)
            · have g4 := bne_eq_false_iff_eq.1 h4
              try simp only [List.length_map] at g4
              refine ⟨fun h5 => ?_, fun h5 => ?_⟩
              · have g5 := bne_iff_ne.1 h5
                try simp only [List.length_map] at g5
                first | (exact fin_b (fit_d (by omega)); done) | (exact fin_b (fit_2 (j := j) (by rw [List.length_drop]; omega) (by rw [drop1_getD]; exact j2)); done) | (first | omega | contradiction | (simp_all; done); done)
              · have g5 := bne_eq_false_iff_eq.1 h5
                try simp only [List.length_map] at g5
                refine ⟨fun h6 => ?_, fun h6 => ?_⟩
                · have g6 := of_decide_eq_true h6
                  try simp only [List.length_map] at g6
                  first | (exact fin_b (fit_d (by omega)); done) | (exact fin_b (fit_2 (j := j) (by rw [List.length_drop]; omega) (by rw [drop1_getD]; exact j2)); done) | (first | omega | contradiction | (simp_all; done); done)
                · have g6 := of_decide_eq_false h6
                  try simp only [List.length_map] at g6
                  refine ⟨fun h7 => ?_, fun h7 => ?_⟩
                  · have g7 := of_decide_eq_true h7
                    try simp only [List.length_map] at g7
                    first | (exact fin_b (fit_d (by omega)); done) | (exact fin_b (fit_2 (j := j) (by rw [List.length_drop]; omega) (by rw [drop1_getD]; exact j2)); done) | (first | omega | contradiction | (simp_all; done); done)
                  · have g7 := of_decide_eq_false h7
                    try simp only [List.length_map] at g7
                    refine ⟨fun h8 => ?_, fun h8 => ?_⟩
                    · have g8 := of_decide_eq_true h8
                      try simp only [List.length_map] at g8
                      first | (exact fin_b (fit_d (by omega)); done) | (exact fin_b (fit_2 (j := j) (by rw [List.length_drop]; omega) (by rw [drop1_getD]; exact j2)); done) | (first | omega | contradiction | (simp_all; done); done)
                    · have g8 := of_decide_eq_false h8
                      try simp only [List.length_map] at g8
                      refine ⟨fun h9 => ?_, fun h9 => ?_⟩
                      · have g9 := of_decide_eq_true h9
                        try simp only [List.length_map] at g9
                        first | (exact fin_b (fit_d (by omega)); done) | (exact fin_b (fit_2 (j := j) (by rw [List.length_drop]; omega) (by rw [drop1_getD]; exact j2)); done) | (first | omega | contradiction | (simp_all; done); done)
                      · have g9 := of_decide_eq_false h9
                        try simp only [List.length_map] at g9
                        refine ⟨fun h10 => ?_, fun h10 => ?_⟩
                        · have g10 := of_decide_eq_true h10
                          try simp only [List.length_map] at g10
                          first | (exact fin_b (fit_d (by omega)); done) | (exact fin_b (fit_2 (j := j) (by rw [List.length_drop]; omega) (by rw [drop1_getD]; exact j2)); done) | (first | omega | contradiction | (simp_all; done); done)
                        · have g10 := of_decide_eq_false h10
                          try simp only [List.length_map] at g10
                          refine ⟨fun h11 => ?_, fun h11 => ?_⟩
                          · have g11 := of_decide_eq_true h11
                            try simp only [List.length_map] at g11
                            first | (exact fin_b (fit_d (by omega)); done) | (exact fin_b (fit_2 (j := j) (by rw [List.length_drop]; omega) (by rw [drop1_getD]; exact j2)); done) | (first | omega | contradiction | (simp_all; done); done)
                          · have g11 := of_decide_eq_false h11
                            try simp only [List.length_map] at g11
                            refine ⟨fun h12 => ?_, fun h12 => ?_⟩
                            · have g12 := of_decide_eq_true h12
                              try simp only [List.length_map] at g12
                              first | (exact fin_b (fit_d (by omega)); done) | (exact fin_b (fit_2 (j := j) (by rw [List.length_drop]; omega) (by rw [drop1_getD]; exact j2)); done) | (first | omega | contradiction | (simp_all; done); done)
                            · have g12 := of_decide_eq_false h12
                              try simp only [List.length_map] at g12
                              refine ⟨fun h13 => ?_, fun h13 => ?_⟩
                              · have g13 := of_decide_eq_true h13
                                try simp only [List.length_map] at g13
                                first | (exact fin_b (fit_d (by omega)); done) | (exact fin_b (fit_2 (j := j) (by rw [List.length_drop]; omega) (by rw [drop1_getD]; exact j2)); done) | (first | omega | contradiction | (simp_all; done); done)
                              · have g13 := of_decide_eq_false h13
                                try simp only [List.length_map] at g13
                                refine ⟨?_, ?_⟩
                                · first | (exact ⟨trivial, (by first | trivial | simp [frzOk]), ⟨(by first | (exact VW.int (wsucc (by omega)); done) | (exact VW.int rfl; done) | (exact VW.lst rfl rfl; done) | (exact VW.cptr rfl; done) | (exact VW.fn .nil; done) | (exact VW.bool rfl; done) | (exact VW.ptr rfl rfl; done) | (exact VW.sl rfl rfl rfl rfl; done) | (exact VW.no rfl; done) | (exact VW.eo rfl; done) | (exact VW.nils; done) | (exact VW.emp; done) | (exact VW.str rfl; done) | (exact VW.int (by first | (simp; done) | fail); done)), (by first | (exact VW.int (wsucc (by omega)); done) | (exact VW.int rfl; done) | (exact VW.lst rfl rfl; done) | (exact VW.cptr rfl; done) | (exact VW.fn .nil; done) | (exact VW.bool rfl; done) | (exact VW.ptr rfl rfl; done) | (exact VW.sl rfl rfl rfl rfl; done) | (exact VW.no rfl; done) | (exact VW.eo rfl; done) | (exact VW.nils; done) | (exact VW.emp; done) | (exact VW.str rfl; done) | (exact VW.int (by first | (simp; done) | fail); done)), (by first | (exact VW.int (wsucc (by omega)); done) | (exact VW.int rfl; done) | (exact VW.lst rfl rfl; done) | (exact VW.cptr rfl; done) | (exact VW.fn .nil; done) | (exact VW.bool rfl; done) | (exact VW.ptr rfl rfl; done) | (exact VW.sl rfl rfl rfl rfl; done) | (exact VW.no rfl; done) | (exact VW.eo rfl; done) | (exact VW.nils; done) | (exact VW.emp; done) | (exact VW.str rfl; done) | (exact VW.int (by first | (simp; done) | fail); done)), trivial⟩, ⟨(by first | (exact bw_img; done) | (exact BW.tik rfl (by first | (simp; done) | omega); done)), trivial⟩⟩; done) | (first | omega | contradiction | (simp_all; done); done)
                                refine ⟨?_, ?_⟩
                                · first | (exact (lp28s iso shr hC l m s x (by omega) hs).2 j j1 j2 j3; done) | (first | omega | contradiction | (simp_all; done); done)
                                first | (exact fin_b (fit_d (by omega)); done) | (exact fin_b (fit_2 (j := j) (by rw [List.length_drop]; omega) (by rw [drop1_getD]; exact j2)); done) | (first | omega | contradiction | (simp_all; done); done)
    · have g0 := bne_eq_false_iff_eq.1 h0
      try simp only [List.length_map] at g0
      refine ⟨fun h14 => ?_, fun h14 => ?_⟩
      · have g14 := of_decide_eq_true h14
        try simp only [List.length_map] at g14
        first | (exact fin_b (fit_d (by omega)); done) | (exact fin_b (fit_2 (j := j) (by rw [List.length_drop]; omega) (by rw [drop1_getD]; exact j2)); done) | (first | omega | contradiction | (simp_all; done); done)
      · have g14 := of_decide_eq_false h14
        try simp only [List.length_map] at g14
        refine ⟨fun h15 => ?_, fun h15 => ?_⟩
        · have g15 := of_decide_eq_true h15
          try simp only [List.length_map] at g15
          first | (exact fin_b (fit_d (by omega)); done) | (exact fin_b (fit_2 (j := j) (by rw [List.length_drop]; omega) (by rw [drop1_getD]; exact j2)); done) | (first | omega | contradiction | (simp_all; done); done)
        · have g15 := of_decide_eq_false h15
          try simp only [List.length_map] at g15
          refine ⟨fun h16 => ?_, fun h16 => ?_⟩
          · have g16 := bne_iff_ne.1 h16
            try simp only [List.length_map] at g16
            first | (exact fin_b (fit_d (by omega)); done) | (exact fin_b (fit_2 (j := j) (by rw [List.length_drop]; omega) (by rw [drop1_getD]; exact j2)); done) | (first | omega | contradiction | (simp_all; done); done)
          · have g16 := bne_eq_false_iff_eq.1 h16
            try simp only [List.length_map] at g16
            refine ⟨fun h17 => ?_, fun h17 => ?_⟩
            · have g17 := bne_iff_ne.1 h17
              try simp only [List.length_map] at g17
              first | (exact fin_b (fit_d (by omega)); done) | (exact fin_b (fit_2 (j := j) (by rw [List.length_drop]; omega) (by rw [drop1_getD]; exact j2)); done) | (first | omega | contradiction | (simp_all; done); done)
            · have g17 := bne_eq_false_iff_eq.1 h17
              try simp only [List.length_map] at g17
              refine ⟨fun h18 => ?_, fun h18 => ?_⟩
              · have g18 := of_decide_eq_true h18
                try simp only [List.length_map] at g18
                first | (exact fin_b (fit_d (by omega)); done) | (exact fin_b (fit_2 (j := j) (by rw [List.length_drop]; omega) (by rw [drop1_getD]; exact j2)); done) | (first | omega | contradiction | (simp_all; done); done)
              · have g18 := of_decide_eq_false h18
                try simp only [List.length_map] at g18
                refine ⟨fun h19 => ?_, fun h19 => ?_⟩
                · have g19 := of_decide_eq_true h19
                  try simp only [List.length_map] at g19
                  first | (exact fin_b (fit_d (by omega)); done) | (exact fin_b (fit_2 (j := j) (by rw [List.length_drop]; omega) (by rw [drop1_getD]; exact j2)); done) | (first | omega | contradiction | (simp_all; done); done)
                · have g19 := of_decide_eq_false h19
                  try simp only [List.length_map] at g19
                  refine ⟨fun h20 => ?_, fun h20 => ?_⟩
                  · have g20 := of_decide_eq_true h20
                    try simp only [List.length_map] at g20
                    first | (exact fin_b (fit_d (by omega)); done) | (exact fin_b (fit_2 (j := j) (by rw [List.length_drop]; omega) (by rw [drop1_getD]; exact j2)); done) | (first | omega | contradiction | (simp_all; done); done)
                  · have g20 := of_decide_eq_false h20
                    try simp only [List.length_map] at g20
                    refine ⟨fun h21 => ?_, fun h21 => ?_⟩
                    · have g21 := of_decide_eq_true h21
                      try simp only [List.length_map] at g21
                      first | (exact fin_b (fit_d (by omega)); done) | (exact fin_b (fit_2 (j := j) (by rw [List.length_drop]; omega) (by rw [drop1_getD]; exact j2)); done) | (first | omega | contradiction | (simp_all; done); done)
                    · have g21 := of_decide_eq_false h21
                      try simp only [List.length_map] at g21
                      refine ⟨fun h22 => ?_, fun h22 => ?_⟩
                      · have g22 := of_decide_eq_true h22
                        try simp only [List.length_map] at g22
                        first | (exact fin_b (fit_d (by omega)); done) | (exact fin_b (fit_2 (j := j) (by rw [List.length_drop]; omega) (by rw [drop1_getD]; exact j2)); done) | (first | omega | contradiction | (simp_all; done); done)
                      · have g22 := of_decide_eq_false h22
                        try simp only [List.length_map] at g22
                        refine ⟨fun h23 => ?_, fun h23 => ?_⟩
                        · have g23 := of_decide_eq_true h23
                          try simp only [List.length_map] at g23
                          first | (exact fin_b (fit_d (by omega)); done) | (exact fin_b (fit_2 (j := j) (by rw [List.length_drop]; omega) (by rw [drop1_getD]; exact j2)); done) | (first | omega | contradiction | (simp_all; done); done)
                        · have g23 := of_decide_eq_false h23
                          try simp only [List.length_map] at g23
                          refine ⟨fun h24 => ?_, fun h24 => ?_⟩
                          · have g24 := of_decide_eq_true h24
                            try simp only [List.length_map] at g24
                            first | (exact fin_b (fit_d (by omega)); done) | (exact fin_b (fit_2 (j := j) (by rw [List.length_drop]; omega) (by rw [drop1_getD]; exact j2)); done) | (first | omega | contradiction | (simp_all; done); done)
                          · have g24 := of_decide_eq_false h24
                            try simp only [List.length_map] at g24
                            refine ⟨fun h25 => ?_, fun h25 => ?_⟩
                            · have g25 := of_decide_eq_true h25
                              try simp only [List.length_map] at g25
                              first | (exact fin_b (fit_d (by omega)); done) | (exact fin_b (fit_2 (j := j) (by rw [List.length_drop]; omega) (by rw [drop1_getD]; exact j2)); done) | (first | omega | contradiction | (simp_all; done); done)
                            · have g25 := of_decide_eq_false h25
                              try simp only [List.length_map] at g25
                              refine ⟨?_, ?_⟩
                              · first | (exact ⟨trivial, (by first | trivial | simp [frzOk]), ⟨(by first | (exact VW.int (wsucc (by omega)); done) | (exact VW.int rfl; done) | (exact VW.lst rfl rfl; done) | (exact VW.cptr rfl; done) | (exact VW.fn .nil; done) | (exact VW.bool rfl; done) | (exact VW.ptr rfl rfl; done) | (exact VW.sl rfl rfl rfl rfl; done) | (exact VW.no rfl; done) | (exact VW.eo rfl; done) | (exact VW.nils; done) | (exact VW.emp; done) | (exact VW.str rfl; done) | (exact VW.int (by first | (simp; done) | fail); done)), (by first | (exact VW.int (wsucc (by omega)); done) | (exact VW.int rfl; done) | (exact VW.lst rfl rfl; done) | (exact VW.cptr rfl; done) | (exact VW.fn .nil; done) | (exact VW.bool rfl; done) | (exact VW.ptr rfl rfl; done) | (exact VW.sl rfl rfl rfl rfl; done) | (exact VW.no rfl; done) | (exact VW.eo rfl; done) | (exact VW.nils; done) | (exact VW.emp; done) | (exact VW.str rfl; done) | (exact VW.int (by first | (simp; done) | fail); done)), (by first | (exact VW.int (wsucc (by omega)); done) | (exact VW.int rfl; done) | (exact VW.lst rfl rfl; done) | (exact VW.cptr rfl; done) | (exact VW.fn .nil; done) | (exact VW.bool rfl; done) | (exact VW.ptr rfl rfl; done) | (exact VW.sl rfl rfl rfl rfl; done) | (exact VW.no rfl; done) | (exact VW.eo rfl; done) | (exact VW.nils; done) | (exact VW.emp; done) | (exact VW.str rfl; done) | (exact VW.int (by first | (simp; done) | fail); done)), trivial⟩, ⟨(by first | (exact bw_img; done) | (exact BW.tik rfl (by first | (simp; done) | omega); done)), trivial⟩⟩; done) | (first | omega | contradiction | (simp_all; done); done)
                              refine ⟨?_, ?_⟩
                              · first | (exact (lp28s iso shr hC l m s x (by omega) hs).2 j j1 j2 j3; done) | (first | omega | contradiction | (simp_all; done); done)
                              first | (exact fin_b (fit_d (by omega)); done) | (exact fin_b (fit_2 (j := j) (by rw [List.length_drop]; omega) (by rw [drop1_getD]; exact j2)); done) | (first | omega | contradiction | (simp_all; done); done)
theorem tot_succ {l : List (List Int)} {i : Nat} (h : i < l.length) : tot l (i + 1) = tot l i + ((l.getD i default).length : Int) := by
  unfold tot
  rw [List.take_add_one, List.getElem?_eq_getElem h, List.map_append, List.sum_append, List.getD_eq_getElem?_getD, List.getElem?_eq_getElem h]
  simp
theorem tot_le {l : List (List Int)} (hL : ∀ c ∈ l, c.length ≤ 17592186044416) : ∀ i, i ≤ l.length → 0 ≤ tot l i ∧ tot l i ≤ i * 17592186044416
  | 0, _ => ⟨by simp [tot], by simp [tot]⟩
  | i + 1, h => by
    have h1 := tot_le hL i (by omega)
    have h2 := getD_all (p := fun c : List Int => c.length ≤ 17592186044416) hL (Nat.zero_le _) (i := i) (d := default)
    rw [tot_succ (by omega)]
    omega
def hd27 (l : List Ins) (m : Int) (s : Int) (x : Mc) (i : Nat) : PS := ⟨⟨66, [(55, .int .i64 ((i : Nat) : Int)), (5, .int .i64 (tot x.s i)), (53, stks x.s), (54, .int .i64 (List.length x.s : Int))]⟩, []⟩
def en27 (l : List Ins) (m : Int) (s : Int) (x : Mc) : PS := ⟨⟨66, [(5, .int .i64 (tot x.s x.s.length))]⟩, []⟩
theorem lp27 (iso : Nat → List PV → Option PV) (shr : Nat → List PV → List Pv.Box → Option (PV × List Pv.Box)) (hC : OrcOk Tryd.prog X.G ⟨iso, shr, ownS X.sh, []⟩)  (l : List Ins) (m : Int) (s : Int) (x : Mc) (h100 : x.s.length ≤ 100) (hL : ∀ c ∈ x.s, c.length ≤ 17592186044416) : LoopOk Tryd.prog X.G 0 (lpB Tryd.f27 5) (hd27 l m s x 0) (.exit 0) (en27 l m s x) := by
  refine (loop_first (S := hd27 l m s x) (m := x.s.length) (c := fun _ => true) (e1 := fun i => (.ret, hd27 l m s x i)) (e2 := (.exit 0, en27 l m s x)) (fun i hi _ ep sp nx => ?_) (fun i hi hc => by cases hc) ?_).1 (fun _ _ => rfl)
  · refine round_ok env.mixed hC (by kernel_rfl) (r27 iso shr l m s x i) ?_
    simp only [Holds, Pv.Next]
    have ht := tot_le hL i
    have h2 := getD_all (p := fun c : List Int => c.length ≤ 17592186044416) hL (Nat.zero_le _) (i := i) (d := default)
    have hts : i < x.s.length → IntKind.wrap .i64 (tot x.s i + ((x.s.getD i default).length : Int)) = tot x.s (i + 1) := fun h => by have := ht (by omega); rw [tot_succ h, IntKind.wrap_i64]; omega
    refine ⟨fun h0 => ?_, fun h0 => ?_⟩
    · have g0 := of_decide_eq_true h0
      try simp only [List.length_map] at g0
      refine ⟨?_, ?_⟩
      · first | (exact px26 (by omega); done) | (exact px27 (by omega); done) | (exact px28 (by omega); done) | (first | omega | contradiction | (simp_all; done); done)
      refine ⟨?_, ?_⟩
      · first | (exact ⟨trivial, (by first | trivial | simp [frzOk]), ⟨(by first | (exact VW.int (by first | (exact hts hi; done) | (rw [List.length_map]; exact hts hi; done) | fail); done) | (exact VW.int (wsucc (by omega)); done) | (exact VW.int rfl; done) | (exact VW.lst rfl rfl; done) | (exact VW.cptr rfl; done) | (exact VW.fn .nil; done) | (exact VW.bool rfl; done) | (exact VW.ptr rfl rfl; done) | (exact VW.sl rfl rfl rfl rfl; done) | (exact VW.no rfl; done) | (exact VW.eo rfl; done) | (exact VW.nils; done) | (exact VW.emp; done) | (exact VW.str rfl; done) | (exact VW.int (by first | (simp; done) | fail); done)), (by first | (exact VW.int (by first | (exact hts hi; done) | (rw [List.length_map]; exact hts hi; done) | fail); done) | (exact VW.int (wsucc (by omega)); done) | (exact VW.int rfl; done) | (exact VW.lst rfl rfl; done) | (exact VW.cptr rfl; done) | (exact VW.fn .nil; done) | (exact VW.bool rfl; done) | (exact VW.ptr rfl rfl; done) | (exact VW.sl rfl rfl rfl rfl; done) | (exact VW.no rfl; done) | (exact VW.eo rfl; done) | (exact VW.nils; done) | (exact VW.emp; done) | (exact VW.str rfl; done) | (exact VW.int (by first | (simp; done) | fail); done)), (by first | (exact VW.int (by first | (exact hts hi; done) | (rw [List.length_map]; exact hts hi; done) | fail); done) | (exact VW.int (wsucc (by omega)); done) | (exact VW.int rfl; done) | (exact VW.lst rfl rfl; done) | (exact VW.cptr rfl; done) | (exact VW.fn .nil; done) | (exact VW.bool rfl; done) | (exact VW.ptr rfl rfl; done) | (exact VW.sl rfl rfl rfl rfl; done) | (exact VW.no rfl; done) | (exact VW.eo rfl; done) | (exact VW.nils; done) | (exact VW.emp; done) | (exact VW.str rfl; done) | (exact VW.int (by first | (simp; done) | fail); done)), (by first | (exact VW.int (by first | (exact hts hi; done) | (rw [List.length_map]; exact hts hi; done) | fail); done) | (exact VW.int (wsucc (by omega)); done) | (exact VW.int rfl; done) | (exact VW.lst rfl rfl; done) | (exact VW.cptr rfl; done) | (exact VW.fn .nil; done) | (exact VW.bool rfl; done) | (exact VW.ptr rfl rfl; done) | (exact VW.sl rfl rfl rfl rfl; done) | (exact VW.no rfl; done) | (exact VW.eo rfl; done) | (exact VW.nils; done) | (exact VW.emp; done) | (exact VW.str rfl; done) | (exact VW.int (by first | (simp; done) | fail); done)), trivial⟩, trivial⟩; done) | (first | omega | contradiction | (simp_all; done); done)
      first | (exact nx; done) | (first | omega | contradiction | (simp_all; done); done)
    · have g0 := of_decide_eq_false h0
      try simp only [List.length_map] at g0
      refine ⟨by first | trivial | rfl | exact ⟨rfl, trivial⟩ | simp, ?_⟩
      refine ⟨?_, ?_⟩
      · first | (exact ⟨trivial, (by first | trivial | simp [frzOk]), ⟨(by first | (exact VW.int (by first | (exact hts hi; done) | (rw [List.length_map]; exact hts hi; done) | fail); done) | (exact VW.int (wsucc (by omega)); done) | (exact VW.int rfl; done) | (exact VW.lst rfl rfl; done) | (exact VW.cptr rfl; done) | (exact VW.fn .nil; done) | (exact VW.bool rfl; done) | (exact VW.ptr rfl rfl; done) | (exact VW.sl rfl rfl rfl rfl; done) | (exact VW.no rfl; done) | (exact VW.eo rfl; done) | (exact VW.nils; done) | (exact VW.emp; done) | (exact VW.str rfl; done) | (exact VW.int (by first | (simp; done) | fail); done)), trivial⟩, trivial⟩; done) | (first | omega | contradiction | (simp_all; done); done)
      first | (exact ⟨trivial, rfl⟩; done) | (exact ⟨rfl, rfl⟩; done) | (trivial; done) | (rfl; done) | (first | omega | contradiction | (simp_all; done); done)
  · refine round_ok env.mixed hC (by kernel_rfl) (r27 iso shr l m s x (x.s.length)) ?_
    simp only [Holds, Pv.Next]
    have ht := tot_le hL (x.s.length)
    have h2 := getD_all (p := fun c : List Int => c.length ≤ 17592186044416) hL (Nat.zero_le _) (i := (x.s.length)) (d := default)
    have hts : (x.s.length) < x.s.length → IntKind.wrap .i64 (tot x.s (x.s.length) + ((x.s.getD (x.s.length) default).length : Int)) = tot x.s ((x.s.length) + 1) := fun h => by have := ht (by omega); rw [tot_succ h, IntKind.wrap_i64]; omega
    refine ⟨fun h0 => ?_, fun h0 => ?_⟩
    · have g0 := of_decide_eq_true h0
      try simp only [List.length_map] at g0
      refine ⟨?_, ?_⟩
      · first | (exact px26 (by omega); done) | (exact px27 (by omega); done) | (exact px28 (by omega); done) | (first | omega | contradiction | (simp_all; done); done)
      refine ⟨?_, ?_⟩
      · first | (exact ⟨trivial, (by first | trivial | simp [frzOk]), ⟨(by first | (exact VW.int (by first | (exact hts hi; done) | (rw [List.length_map]; exact hts hi; done) | fail); done) | (exact VW.int (wsucc (by omega)); done) | (exact VW.int rfl; done) | (exact VW.lst rfl rfl; done) | (exact VW.cptr rfl; done) | (exact VW.fn .nil; done) | (exact VW.bool rfl; done) | (exact VW.ptr rfl rfl; done) | (exact VW.sl rfl rfl rfl rfl; done) | (exact VW.no rfl; done) | (exact VW.eo rfl; done) | (exact VW.nils; done) | (exact VW.emp; done) | (exact VW.str rfl; done) | (exact VW.int (by first | (simp; done) | fail); done)), (by first | (exact VW.int (by first | (exact hts hi; done) | (rw [List.length_map]; exact hts hi; done) | fail); done) | (exact VW.int (wsucc (by omega)); done) | (exact VW.int rfl; done) | (exact VW.lst rfl rfl; done) | (exact VW.cptr rfl; done) | (exact VW.fn .nil; done) | (exact VW.bool rfl; done) | (exact VW.ptr rfl rfl; done) | (exact VW.sl rfl rfl rfl rfl; done) | (exact VW.no rfl; done) | (exact VW.eo rfl; done) | (exact VW.nils; done) | (exact VW.emp; done) | (exact VW.str rfl; done) | (exact VW.int (by first | (simp; done) | fail); done)), (by first | (exact VW.int (by first | (exact hts hi; done) | (rw [List.length_map]; exact hts hi; done) | fail); done) | (exact VW.int (wsucc (by omega)); done) | (exact VW.int rfl; done) | (exact VW.lst rfl rfl; done) | (exact VW.cptr rfl; done) | (exact VW.fn .nil; done) | (exact VW.bool rfl; done) | (exact VW.ptr rfl rfl; done) | (exact VW.sl rfl rfl rfl rfl; done) | (exact VW.no rfl; done) | (exact VW.eo rfl; done) | (exact VW.nils; done) | (exact VW.emp; done) | (exact VW.str rfl; done) | (exact VW.int (by first | (simp; done) | fail); done)), (by first | (exact VW.int (by first | (exact hts hi; done) | (rw [List.length_map]; exact hts hi; done) | fail); done) | (exact VW.int (wsucc (by omega)); done) | (exact VW.int rfl; done) | (exact VW.lst rfl rfl; done) | (exact VW.cptr rfl; done) | (exact VW.fn .nil; done) | (exact VW.bool rfl; done) | (exact VW.ptr rfl rfl; done) | (exact VW.sl rfl rfl rfl rfl; done) | (exact VW.no rfl; done) | (exact VW.eo rfl; done) | (exact VW.nils; done) | (exact VW.emp; done) | (exact VW.str rfl; done) | (exact VW.int (by first | (simp; done) | fail); done)), trivial⟩, trivial⟩; done) | (first | omega | contradiction | (simp_all; done); done)
      first | (exact nx; done) | (first | omega | contradiction | (simp_all; done); done)
    · have g0 := of_decide_eq_false h0
      try simp only [List.length_map] at g0
      refine ⟨by first | trivial | rfl | exact ⟨rfl, trivial⟩ | simp, ?_⟩
      refine ⟨?_, ?_⟩
      · first | (exact ⟨trivial, (by first | trivial | simp [frzOk]), ⟨(by first | (exact VW.int (by first | (exact hts hi; done) | (rw [List.length_map]; exact hts hi; done) | fail); done) | (exact VW.int (wsucc (by omega)); done) | (exact VW.int rfl; done) | (exact VW.lst rfl rfl; done) | (exact VW.cptr rfl; done) | (exact VW.fn .nil; done) | (exact VW.bool rfl; done) | (exact VW.ptr rfl rfl; done) | (exact VW.sl rfl rfl rfl rfl; done) | (exact VW.no rfl; done) | (exact VW.eo rfl; done) | (exact VW.nils; done) | (exact VW.emp; done) | (exact VW.str rfl; done) | (exact VW.int (by first | (simp; done) | fail); done)), trivial⟩, trivial⟩; done) | (first | omega | contradiction | (simp_all; done); done)
      first | (exact ⟨trivial, rfl⟩; done) | (exact ⟨rfl, rfl⟩; done) | (trivial; done) | (rfl; done) | (first | omega | contradiction | (simp_all; done); done)
theorem ok27  (l : List Ins) (m : Int) (s : Int) (x : Mc) (hL : ∀ c ∈ x.s, c.length ≤ 17592186044416) : Ok Tryd.prog X.G 27 [imgP l m s, x.pv] (.bool (grt l m s x)) := by
  obtain ⟨iso, shr, hC⟩ : ∃ iso shr, OrcOk Tryd.prog X.G ⟨iso, shr, ownS X.sh, []⟩ := ⟨_, _, iso0⟩
  have hq1 : (l.length > 100 ∨ m > 100 ∨ s > 100 ∨ x.m.length > 100 ∨ x.s.length > 100 ∨ x.c.length > 200 ∨ x.i.length > 5000 ∨ x.o.length > 5000) → true = grt l m s x := fun h => by unfold grt; rw [decide_eq_true h]; rfl
  have hq2 : ¬ (l.length > 100 ∨ m > 100 ∨ s > 100 ∨ x.m.length > 100 ∨ x.s.length > 100 ∨ x.c.length > 200 ∨ x.i.length > 5000 ∨ x.o.length > 5000) → decide (tot x.s x.s.length > 5000) = grt l m s x := fun h => by unfold grt; rw [decide_eq_false h]; rfl
  refine wok env hC fd27 (t27 iso shr l m s x) ?_ hhS
  simp only [Holds]
  refine ⟨fun h0 => ?_, fun h0 => ?_⟩
  · have g0 := of_decide_eq_true h0
    try simp only [List.length_map] at g0
    first | (exact fin_b (hq1 (by omega)); done) | (exact fin_b (hq2 (by omega)); done) | (exact fin_b (by rw [← hq2 (by omega)]; exact (decide_eq_true (by omega)).symm); done) | (exact fin_b (by rw [← hq2 (by omega)]; exact (decide_eq_false (by omega)).symm); done) | (first | omega | contradiction | (simp_all; done); done)
  · have g0 := of_decide_eq_false h0
    try simp only [List.length_map] at g0
    refine ⟨fun h1 => ?_, fun h1 => ?_⟩
    · have g1 := of_decide_eq_true h1
      try simp only [List.length_map] at g1
      first | (exact fin_b (hq1 (by omega)); done) | (exact fin_b (hq2 (by omega)); done) | (exact fin_b (by rw [← hq2 (by omega)]; exact (decide_eq_true (by omega)).symm); done) | (exact fin_b (by rw [← hq2 (by omega)]; exact (decide_eq_false (by omega)).symm); done) | (first | omega | contradiction | (simp_all; done); done)
    · have g1 := of_decide_eq_false h1
      try simp only [List.length_map] at g1
      refine ⟨fun h2 => ?_, fun h2 => ?_⟩
      · have g2 := of_decide_eq_true h2
        try simp only [List.length_map] at g2
        first | (exact fin_b (hq1 (by omega)); done) | (exact fin_b (hq2 (by omega)); done) | (exact fin_b (by rw [← hq2 (by omega)]; exact (decide_eq_true (by omega)).symm); done) | (exact fin_b (by rw [← hq2 (by omega)]; exact (decide_eq_false (by omega)).symm); done) | (first | omega | contradiction | (simp_all; done); done)
      · have g2 := of_decide_eq_false h2
        try simp only [List.length_map] at g2
        refine ⟨fun h3 => ?_, fun h3 => ?_⟩
        · have g3 := of_decide_eq_true h3
          try simp only [List.length_map] at g3
          first | (exact fin_b (hq1 (by omega)); done) | (exact fin_b (hq2 (by omega)); done) | (exact fin_b (by rw [← hq2 (by omega)]; exact (decide_eq_true (by omega)).symm); done) | (exact fin_b (by rw [← hq2 (by omega)]; exact (decide_eq_false (by omega)).symm); done) | (first | omega | contradiction | (simp_all; done); done)
        · have g3 := of_decide_eq_false h3
          try simp only [List.length_map] at g3
          refine ⟨fun h4 => ?_, fun h4 => ?_⟩
          · have g4 := of_decide_eq_true h4
            try simp only [List.length_map] at g4
            first | (exact fin_b (hq1 (by omega)); done) | (exact fin_b (hq2 (by omega)); done) | (exact fin_b (by rw [← hq2 (by omega)]; exact (decide_eq_true (by omega)).symm); done) | (exact fin_b (by rw [← hq2 (by omega)]; exact (decide_eq_false (by omega)).symm); done) | (first | omega | contradiction | (simp_all; done); done)
          · have g4 := of_decide_eq_false h4
            try simp only [List.length_map] at g4
            refine ⟨fun h5 => ?_, fun h5 => ?_⟩
            · have g5 := of_decide_eq_true h5
              try simp only [List.length_map] at g5
              first | (exact fin_b (hq1 (by omega)); done) | (exact fin_b (hq2 (by omega)); done) | (exact fin_b (by rw [← hq2 (by omega)]; exact (decide_eq_true (by omega)).symm); done) | (exact fin_b (by rw [← hq2 (by omega)]; exact (decide_eq_false (by omega)).symm); done) | (first | omega | contradiction | (simp_all; done); done)
            · have g5 := of_decide_eq_false h5
              try simp only [List.length_map] at g5
              refine ⟨fun h6 => ?_, fun h6 => ?_⟩
              · have g6 := of_decide_eq_true h6
                try simp only [List.length_map] at g6
                first | (exact fin_b (hq1 (by omega)); done) | (exact fin_b (hq2 (by omega)); done) | (exact fin_b (by rw [← hq2 (by omega)]; exact (decide_eq_true (by omega)).symm); done) | (exact fin_b (by rw [← hq2 (by omega)]; exact (decide_eq_false (by omega)).symm); done) | (first | omega | contradiction | (simp_all; done); done)
              · have g6 := of_decide_eq_false h6
                try simp only [List.length_map] at g6
                refine ⟨fun h7 => ?_, fun h7 => ?_⟩
                · have g7 := of_decide_eq_true h7
                  try simp only [List.length_map] at g7
                  first | (exact fin_b (hq1 (by omega)); done) | (exact fin_b (hq2 (by omega)); done) | (exact fin_b (by rw [← hq2 (by omega)]; exact (decide_eq_true (by omega)).symm); done) | (exact fin_b (by rw [← hq2 (by omega)]; exact (decide_eq_false (by omega)).symm); done) | (first | omega | contradiction | (simp_all; done); done)
                · have g7 := of_decide_eq_false h7
                  try simp only [List.length_map] at g7
                  refine ⟨?_, ?_⟩
                  · first | (exact ⟨trivial, (by first | trivial | simp [frzOk]), ⟨(by first | (exact VW.int (wsucc (by omega)); done) | (exact VW.int rfl; done) | (exact VW.lst rfl rfl; done) | (exact VW.cptr rfl; done) | (exact VW.fn .nil; done) | (exact VW.bool rfl; done) | (exact VW.ptr rfl rfl; done) | (exact VW.sl rfl rfl rfl rfl; done) | (exact VW.no rfl; done) | (exact VW.eo rfl; done) | (exact VW.nils; done) | (exact VW.emp; done) | (exact VW.str rfl; done) | (exact VW.int (by first | (simp; done) | fail); done)), (by first | (exact VW.int (wsucc (by omega)); done) | (exact VW.int rfl; done) | (exact VW.lst rfl rfl; done) | (exact VW.cptr rfl; done) | (exact VW.fn .nil; done) | (exact VW.bool rfl; done) | (exact VW.ptr rfl rfl; done) | (exact VW.sl rfl rfl rfl rfl; done) | (exact VW.no rfl; done) | (exact VW.eo rfl; done) | (exact VW.nils; done) | (exact VW.emp; done) | (exact VW.str rfl; done) | (exact VW.int (by first | (simp; done) | fail); done)), (by first | (exact VW.int (wsucc (by omega)); done) | (exact VW.int rfl; done) | (exact VW.lst rfl rfl; done) | (exact VW.cptr rfl; done) | (exact VW.fn .nil; done) | (exact VW.bool rfl; done) | (exact VW.ptr rfl rfl; done) | (exact VW.sl rfl rfl rfl rfl; done) | (exact VW.no rfl; done) | (exact VW.eo rfl; done) | (exact VW.nils; done) | (exact VW.emp; done) | (exact VW.str rfl; done) | (exact VW.int (by first | (simp; done) | fail); done)), (by first | (exact VW.int (wsucc (by omega)); done) | (exact VW.int rfl; done) | (exact VW.lst rfl rfl; done) | (exact VW.cptr rfl; done) | (exact VW.fn .nil; done) | (exact VW.bool rfl; done) | (exact VW.ptr rfl rfl; done) | (exact VW.sl rfl rfl rfl rfl; done) | (exact VW.no rfl; done) | (exact VW.eo rfl; done) | (exact VW.nils; done) | (exact VW.emp; done) | (exact VW.str rfl; done) | (exact VW.int (by first | (simp; done) | fail); done)), trivial⟩, trivial⟩; done) | (first | omega | contradiction | (simp_all; done); done)
                  refine ⟨?_, ?_⟩
                  · first | (exact lp27 iso shr hC l m s x (by omega) hL; done) | (first | omega | contradiction | (simp_all; done); done)
                  refine ⟨fun h8 => ?_, fun h8 => ?_⟩
                  · have g8 := of_decide_eq_true h8
                    try simp only [List.length_map] at g8
                    first | (exact fin_b (hq1 (by omega)); done) | (exact fin_b (hq2 (by omega)); done) | (exact fin_b (by rw [← hq2 (by omega)]; exact (decide_eq_true (by omega)).symm); done) | (exact fin_b (by rw [← hq2 (by omega)]; exact (decide_eq_false (by omega)).symm); done) | (first | omega | contradiction | (simp_all; done); done)
                  · have g8 := of_decide_eq_false h8
                    try simp only [List.length_map] at g8
                    first | (exact fin_b (hq1 (by omega)); done) | (exact fin_b (hq2 (by omega)); done) | (exact fin_b (by rw [← hq2 (by omega)]; exact (decide_eq_true (by omega)).symm); done) | (exact fin_b (by rw [← hq2 (by omega)]; exact (decide_eq_false (by omega)).symm); done) | (first | omega | contradiction | (simp_all; done); done)
theorem le_sum : ∀ {l : List (List Int)} {c : List Int}, c ∈ l → c.length ≤ (l.map List.length).sum
  | [], _, h => by simp at h
  | a :: l, c, h => by
    rw [List.map_cons, List.sum_cons]
    rcases List.mem_cons.1 h with rfl | h
    · omega
    · have := le_sum h; omega
theorem grt_no {l : List Ins} {m s : Int} {x : Mc} (h : grt l m s x = false) : l.length ≤ 100 ∧ Sm x := by
  unfold grt at h
  simp only [Bool.or_eq_false_iff, decide_eq_false_iff_not] at h
  obtain ⟨h1, h2⟩ := h
  have hsum : ∀ c ∈ x.s, c.length ≤ 5000 := fun c hc => by
    have : c.length ≤ (x.s.map List.length).sum := le_sum hc
    unfold tot at h2
    rw [List.take_length] at h2
    omega
  refine ⟨by omega, by rw [BB_eq]; omega, by rw [BB_eq]; omega, fun c hc => by have := hsum c hc; rw [BB_eq]; omega, by rw [BB_eq]; omega, by rw [BB_eq]; omega, by rw [BB_eq]; omega⟩
theorem bytes56 {n : Nat} (h : n ≤ 4294967296) : bytesOk Tryd.prog 56 n = true := bytes_ok (by kernel_rfl) h
theorem z56 : zeroP Tryd.prog 56 = some [.int .i64 0, .bool false] := by kernel_rfl
theorem app_empA {l : List Ac} (hl : l.length ≤ 4294967296) : pappM true Tryd.prog [] (List.length ([] : List Pv.Box)) 28 28 .emp (.lst 2 (List.map Ac.pv l)) = some (.own 0 2 (List.map Ac.pv l), [tik 2 (l.length * 2)]) := by
  unfold pappM pappO
  rw [Tryd.underlying28]
  simp only [sz56, z56]
  rw [if_pos ⟨rfl, by decide⟩, telems_lst]
  simp only
  rw [if_pos (by rw [List.all_eq_true]; intro x hx; obtain ⟨b, _, rfl⟩ := List.mem_map.1 hx; rfl), if_pos (by rw [List.length_map]; exact bytes56 hl)]
  simp only [List.length_map]; rfl
theorem ok36  (a : List Ac) (ha : a.length ≤ BB) : Ok Tryd.prog X.G 36 [acts a] (acts a) := by
  obtain ⟨iso, shr, hC⟩ : ∃ iso shr, OrcOk Tryd.prog X.G ⟨iso, shr, ownS X.sh, []⟩ := ⟨_, _, iso0⟩
  rw [BB_eq] at ha
  refine wok env hC fd36 (t36 iso shr a) ?_ hhS
  simp only [Holds]
  refine ⟨fun hb0 => ?_, ?_⟩
  ·
    first | ((have hb : a = [] := by first | (simpa using hb0) | fail); (subst hb; exact ⟨_, _, rfl, Sub.nils 2⟩); done) | (exact ⟨_, _, rfl, Sub.refl _⟩; done) | (first | omega | contradiction | (simp_all; done); done)
  ·
    refine ⟨?_, ?_⟩
    · first | (exact app_empA (by omega); done) | (exact px26 (by omega); done) | (exact px27 (by omega); done) | (exact px28 (by omega); done) | (first | omega | contradiction | (simp_all; done); done)
    first | ((have hb : a = [] := by first | (simpa using hb0) | fail); (subst hb; exact ⟨_, _, rfl, Sub.nils 2⟩); done) | (exact ⟨_, _, rfl, Sub.refl _⟩; done) | (first | omega | contradiction | (simp_all; done); done)
theorem lh1 : ∃ (iso : Nat → List PV → Option PV) (shr : Nat → List PV → List Pv.Box → Option (PV × List Pv.Box)), OrcOk Tryd.prog X.G ⟨iso, shr, ownS X.sh, []⟩ ∧ (∀ (a : List Int), (a.length ≤ BB) → iso 35 [nums a] = some (nums a)) ∧ (∀ (a : List Ac), (a.length ≤ BB) → iso 36 [acts a] = some (acts a)) := by
  obtain ⟨h35, e35, o35⟩ := ent_ex (fun q : List Int => (q).length ≤ BB) (fun q => ([nums (q)], nums (q))) (fun a b h => by simp only [List.cons.injEq, nums_inj, stks_inj, acts_inj, Mc_inj, imgP_inj, mbx_inj, PV.int.injEq, ArgPv_inj, and_true, true_and] at h; first | rfl | (simp only [h]; done) | (simp [h]; done))
  obtain ⟨h36, e36, o36⟩ := ent_ex (fun q : List Ac => (q).length ≤ BB) (fun q => ([acts (q)], acts (q))) (fun a b h => by simp only [List.cons.injEq, nums_inj, stks_inj, acts_inj, Mc_inj, imgP_inj, mbx_inj, PV.int.injEq, ArgPv_inj, and_true, true_and] at h; first | rfl | (simp only [h]; done) | (simp [h]; done))
  have hT : TabOk Tryd.prog X.G [(35, h35), (36, h36)] := tk (fun l r e => by obtain ⟨a, ha, rfl, rfl⟩ := o35 l r e; exact ok35 (a) ha) (tk (fun l r e => by obtain ⟨a, ha, rfl, rfl⟩ := o36 l r e; exact ok36 (a) ha) tn)
  have hS : TabSOk Tryd.prog X.G [] := tn'
  exact ⟨_, _, orcS hT hS, fun a hp => e35 a hp, fun a hp => e36 a hp⟩
theorem csK_len (l : List (List Int)) {i : Nat} (h : i ≤ l.length) : (csK l i).length = l.length := by unfold csK; rw [List.length_append, List.length_take, List.length_replicate]; omega
theorem csK_set {l : List (List Int)} {i : Nat} (h : i < l.length) : (csK l i).set i (l.getD i default) = csK l (i + 1) := by
  unfold csK
  have e1 : l.length - i = (l.length - (i + 1)) + 1 := by omega
  have e2 : l.take (i + 1) = l.take i ++ [l.getD i default] := by rw [List.take_add_one, List.getElem?_eq_getElem h, List.getD_eq_getElem?_getD, List.getElem?_eq_getElem h]; rfl
  have e3 : (l.take i).length = i := by rw [List.length_take]; omega
  rw [e1, List.replicate_succ, e2, List.set_append_right _ _ (by rw [e3]; exact Nat.le_refl _), e3, Nat.sub_self, List.set_cons_zero, List.append_assoc]
  rfl
theorem csK_end (l : List (List Int)) : csK l l.length = l := by unfold csK; rw [Nat.sub_self, List.take_length]; simp
theorem bw_xc {m : Nat → Option Nat} {hp : List Pv.Box} {x : Mc} (hm : m 1 = some 1) : BW m hp ⟨25, [J x.pc, J x.dir, J x.r.x0, J x.r.x1, J x.r.x2, J x.r.x3, J x.r.x4, J x.r.x5, J x.r.x6, J x.r.x7, J x.r.x8, J x.r.x9, J x.r.x10, J x.r.x11, J x.r.x12, J x.r.x13, J x.r.x14, J x.r.x15, nums x.m, .sl 1 1 0 x.s.length, acts x.c, J x.fp, J x.sb, nums x.i, nums x.o], 0⟩ ⟨25, [J x.pc, J x.dir, J x.r.x0, J x.r.x1, J x.r.x2, J x.r.x3, J x.r.x4, J x.r.x5, J x.r.x6, J x.r.x7, J x.r.x8, J x.r.x9, J x.r.x10, J x.r.x11, J x.r.x12, J x.r.x13, J x.r.x14, J x.r.x15, nums x.m, .sl 1 1 0 x.s.length, acts x.c, J x.fp, J x.sb, nums x.i, nums x.o], 0⟩ :=
  BW.cells ((.cons (VW.int rfl) (.cons (VW.int rfl) (.cons (VW.int rfl) (.cons (VW.int rfl) (.cons (VW.int rfl) (.cons (VW.int rfl) (.cons (VW.int rfl) (.cons (VW.int rfl) (.cons (VW.int rfl) (.cons (VW.int rfl) (.cons (VW.int rfl) (.cons (VW.int rfl) (.cons (VW.int rfl) (.cons (VW.int rfl) (.cons (VW.int rfl) (.cons (VW.int rfl) (.cons (VW.int rfl) (.cons (VW.int rfl) (.cons (VW.lst rfl rfl) (.cons (VW.sl hm rfl rfl rfl) (.cons (VW.lst rfl rfl) (.cons (VW.int rfl) (.cons (VW.int rfl) (.cons (VW.lst rfl rfl) (.cons (VW.lst rfl rfl) .nil))))))))))))))))))))))))))
theorem bw_fz {m : Nat → Option Nat} {hp : List Pv.Box} {x : Mc} (h : hp[1]? = some ⟨1, x.s.map nums, 1⟩) : BW m hp ⟨25, [J x.pc, J x.dir, J x.r.x0, J x.r.x1, J x.r.x2, J x.r.x3, J x.r.x4, J x.r.x5, J x.r.x6, J x.r.x7, J x.r.x8, J x.r.x9, J x.r.x10, J x.r.x11, J x.r.x12, J x.r.x13, J x.r.x14, J x.r.x15, nums x.m, .sl 1 1 0 x.s.length, acts x.c, J x.fp, J x.sb, nums x.i, nums x.o], 0⟩ (mbx x) :=
  BW.cells ((.cons (VW.int rfl) (.cons (VW.int rfl) (.cons (VW.int rfl) (.cons (VW.int rfl) (.cons (VW.int rfl) (.cons (VW.int rfl) (.cons (VW.int rfl) (.cons (VW.int rfl) (.cons (VW.int rfl) (.cons (VW.int rfl) (.cons (VW.int rfl) (.cons (VW.int rfl) (.cons (VW.int rfl) (.cons (VW.int rfl) (.cons (VW.int rfl) (.cons (VW.int rfl) (.cons (VW.int rfl) (.cons (VW.int rfl) (.cons (VW.lst rfl rfl) (.cons (VW.frz h (by decide) (by rw [List.length_map]; omega) (by rw [chunk_one (f := nums) (fun _ => rfl)])) (.cons (VW.lst rfl rfl) (.cons (VW.int rfl) (.cons (VW.int rfl) (.cons (VW.lst rfl rfl) (.cons (VW.lst rfl rfl) .nil))))))))))))))))))))))))))
theorem bw_rep {m : Nat → Option Nat} {hp : List Pv.Box} {n : Nat} {cs : List (List Int)} (h : cs = List.replicate n []) : BW m hp ⟨1, rep n [.nils], 0⟩ ⟨1, cs.map nums, 0⟩ := by
  subst h
  refine BW.cells ?_
  unfold rep
  induction n with
  | zero => exact .nil
  | succ n ih => rw [List.replicate_succ, List.replicate_succ, List.flatten_cons, List.map_cons]; exact .cons (VW.nl 1 rfl) ih
theorem pst15 {hp : List Pv.Box} {cs cs' : List (List Int)} {i : Nat} {y : List Int} (hb : hp[1]? = some ⟨1, cs.map nums, 0⟩) (hi : i < cs.length) (h : cs.set i y = cs') : (pstore Tryd.prog hp 26 (.ptr 1 i) (nums y)).map (fun hp' => ((.tup [] : PV), hp')) = some (.tup [], hp.set 1 ⟨1, cs'.map nums, 0⟩) := by
  subst h
  rw [pstore_at (xs := [nums y]) rfl sz26 hb rfl (by rw [List.length_map]; omega) rfl]
  simp only [Option.map_some]
  rw [← map_set cs i y hi]
theorem px_sl {hp : List Pv.Box} {n i : Nat} (h : i < n) : (pidx Tryd.prog 27 (.sl 1 1 0 n) (.int .i64 (i : Int))).map (fun v => (v, hp)) = some (.ptr 1 i, hp) := by
  rw [pidx_sl Tryd.underlying27 sz26 h]; simp
theorem mk15 {hp : List Pv.Box} {n : Nat} (h2 : hp.length = 1) (h : n ≤ 4294967296) : (pmakeS Tryd.prog hp.length 27 (.int .i64 (n : Int)) (.int .i64 (n : Int))).map (fun (v, bx) => (v, hp ++ [bx])) = some (.sl 1 1 0 n, hp ++ [⟨1, rep n [.nils], 0⟩]) := by
  rw [pmakeS_eq Tryd.underlying27 sz26 z26 rfl (by decide) (bytes26 h) (by omega), h2]; rfl
theorem res15 {x : Mc} : Res X.G 0 (.ptr 0 0) [mbx x] (.ptr 0 0, [⟨25, [J x.pc, J x.dir, J x.r.x0, J x.r.x1, J x.r.x2, J x.r.x3, J x.r.x4, J x.r.x5, J x.r.x6, J x.r.x7, J x.r.x8, J x.r.x9, J x.r.x10, J x.r.x11, J x.r.x12, J x.r.x13, J x.r.x14, J x.r.x15, nums x.m, .sl 1 1 0 x.s.length, acts x.c, J x.fp, J x.sb, nums x.i, nums x.o], 0⟩, ⟨1, (csK x.s x.s.length).map nums, 0⟩]) := by
  refine ⟨[1], [0], rfl, ?_, ⟨VW.ptr rfl rfl, trivial⟩, ?_⟩
  · show ((0 : Nat) = 0 ∧ 0 < 1 ∧ ((csK x.s x.s.length).map nums).length % 1 = 0 ∧ ∀ c ∈ (csK x.s x.s.length).map nums, NB c) ∧ True
    exact ⟨⟨rfl, by decide, Nat.mod_one _, fun c hc => by obtain ⟨a, _, rfl⟩ := List.mem_map.1 hc; exact NB.lst _ _⟩, trivial⟩
  · exact ⟨bw_fz (by show some (Pv.Box.mk 1 (List.map nums (csK x.s x.s.length)) 1) = _; rw [csK_end]), trivial⟩
def hd15 (x : Mc) (i : Nat) : PS := ⟨⟨59, [(47, .int .i64 ((i : Nat) : Int)), (3, .ptr 0 0), (45, stks x.s), (46, .int .i64 (List.length x.s : Int))]⟩, [⟨25, [J x.pc, J x.dir, J x.r.x0, J x.r.x1, J x.r.x2, J x.r.x3, J x.r.x4, J x.r.x5, J x.r.x6, J x.r.x7, J x.r.x8, J x.r.x9, J x.r.x10, J x.r.x11, J x.r.x12, J x.r.x13, J x.r.x14, J x.r.x15, nums x.m, .sl 1 1 0 x.s.length, acts x.c, J x.fp, J x.sb, nums x.i, nums x.o], 0⟩, ⟨1, (csK x.s i).map nums, 0⟩]⟩
def en15 (x : Mc) : PS := ⟨⟨59, [(3, .ptr 0 0)]⟩, [⟨25, [J x.pc, J x.dir, J x.r.x0, J x.r.x1, J x.r.x2, J x.r.x3, J x.r.x4, J x.r.x5, J x.r.x6, J x.r.x7, J x.r.x8, J x.r.x9, J x.r.x10, J x.r.x11, J x.r.x12, J x.r.x13, J x.r.x14, J x.r.x15, nums x.m, .sl 1 1 0 x.s.length, acts x.c, J x.fp, J x.sb, nums x.i, nums x.o], 0⟩, ⟨1, (csK x.s x.s.length).map nums, 0⟩]⟩
theorem lp15 (iso : Nat → List PV → Option PV) (shr : Nat → List PV → List Pv.Box → Option (PV × List Pv.Box)) (hC : OrcOk Tryd.prog X.G ⟨iso, shr, ownS X.sh, []⟩) (e35 : ∀ (a : List Int), (a.length ≤ BB) → iso 35 [nums a] = some (nums a)) (x : Mc) (hs : Sm x) : LoopOk Tryd.prog X.G 0 (lpB Tryd.f15 7) (hd15 x 0) (.exit 0) (en15 x) := by
  refine (loop_first (S := hd15 x) (m := x.s.length) (c := fun _ => true) (e1 := fun i => (.ret, hd15 x i)) (e2 := (.exit 0, en15 x)) (fun i hi _ ep sp nx => ?_) (fun i hi hc => by cases hc) ?_).1 (fun _ _ => rfl)
  · refine round_ok env.mixed hC (by kernel_rfl) (r15 iso shr x i) ?_
    simp only [Holds, Pv.Next]
    have hsz := hs.s
    rw [BB_eq] at hsz
    have hq1 := getD_le hs.ss i
    have hkl := csK_len x.s (i := i)
    refine ⟨fun h0 => ?_, fun h0 => ?_⟩
    · have g0 := of_decide_eq_true h0
      try simp only [List.length_map] at g0
      refine ⟨?_, ?_⟩
      · first | (exact pst15 rfl (by rw [hkl (by omega)]; omega) (csK_set (by omega)); done) | (exact px_sl (by omega); done) | (exact px26 (by omega); done) | (exact px27 (by omega); done) | (exact px28 (by omega); done) | (first | omega | contradiction | (simp_all; done); done)
      refine ⟨?_, ?_⟩
      · first | (exact pcallD_iso rfl rfl (e35 _ hq1); done) | (first | omega | contradiction | (simp_all; done); done)
      refine ⟨?_, ?_⟩
      · first | (exact pst15 rfl (by rw [hkl (by omega)]; omega) (csK_set (by omega)); done) | (exact px_sl (by omega); done) | (exact px26 (by omega); done) | (exact px27 (by omega); done) | (exact px28 (by omega); done) | (first | omega | contradiction | (simp_all; done); done)
      refine ⟨?_, ?_⟩
      · first | (exact pst15 rfl (by rw [hkl (by omega)]; omega) (csK_set (by omega)); done) | (exact px_sl (by omega); done) | (exact px26 (by omega); done) | (exact px27 (by omega); done) | (exact px28 (by omega); done) | (first | omega | contradiction | (simp_all; done); done)
      refine ⟨?_, ?_⟩
      · first | (exact ⟨trivial, (by first | trivial | simp [frzOk]), ⟨(by first | (exact VW.int (wsucc (by omega)); done) | (exact VW.int rfl; done) | (exact VW.lst rfl rfl; done) | (exact VW.cptr rfl; done) | (exact VW.fn .nil; done) | (exact VW.bool rfl; done) | (exact VW.ptr rfl rfl; done) | (exact VW.sl rfl rfl rfl rfl; done) | (exact VW.no rfl; done) | (exact VW.eo rfl; done) | (exact VW.nils; done) | (exact VW.emp; done) | (exact VW.str rfl; done) | (exact VW.int (by first | (simp; done) | fail); done)), (by first | (exact VW.int (wsucc (by omega)); done) | (exact VW.int rfl; done) | (exact VW.lst rfl rfl; done) | (exact VW.cptr rfl; done) | (exact VW.fn .nil; done) | (exact VW.bool rfl; done) | (exact VW.ptr rfl rfl; done) | (exact VW.sl rfl rfl rfl rfl; done) | (exact VW.no rfl; done) | (exact VW.eo rfl; done) | (exact VW.nils; done) | (exact VW.emp; done) | (exact VW.str rfl; done) | (exact VW.int (by first | (simp; done) | fail); done)), (by first | (exact VW.int (wsucc (by omega)); done) | (exact VW.int rfl; done) | (exact VW.lst rfl rfl; done) | (exact VW.cptr rfl; done) | (exact VW.fn .nil; done) | (exact VW.bool rfl; done) | (exact VW.ptr rfl rfl; done) | (exact VW.sl rfl rfl rfl rfl; done) | (exact VW.no rfl; done) | (exact VW.eo rfl; done) | (exact VW.nils; done) | (exact VW.emp; done) | (exact VW.str rfl; done) | (exact VW.int (by first | (simp; done) | fail); done)), (by first | (exact VW.int (wsucc (by omega)); done) | (exact VW.int rfl; done) | (exact VW.lst rfl rfl; done) | (exact VW.cptr rfl; done) | (exact VW.fn .nil; done) | (exact VW.bool rfl; done) | (exact VW.ptr rfl rfl; done) | (exact VW.sl rfl rfl rfl rfl; done) | (exact VW.no rfl; done) | (exact VW.eo rfl; done) | (exact VW.nils; done) | (exact VW.emp; done) | (exact VW.str rfl; done) | (exact VW.int (by first | (simp; done) | fail); done)), trivial⟩, ⟨(by first | (exact bw_xc rfl; done) | (exact bw_rep rfl; done) | (exact BW.flat rfl (fun c hc => by obtain ⟨a, _, rfl⟩ := List.mem_map.1 hc; exact NB.lst _ _); done) | (exact BW.tik rfl (by first | (simp; done) | omega); done)), (by first | (exact bw_xc rfl; done) | (exact bw_rep rfl; done) | (exact BW.flat rfl (fun c hc => by obtain ⟨a, _, rfl⟩ := List.mem_map.1 hc; exact NB.lst _ _); done) | (exact BW.tik rfl (by first | (simp; done) | omega); done)), trivial⟩⟩; done) | (first | omega | contradiction | (simp_all; done); done)
      first | (exact nx; done) | (first | omega | contradiction | (simp_all; done); done)
    · have g0 := of_decide_eq_false h0
      try simp only [List.length_map] at g0
      refine ⟨by first | trivial | rfl | exact ⟨rfl, trivial⟩ | simp, ?_⟩
      refine ⟨?_, ?_⟩
      · first | (exact ⟨trivial, (by first | trivial | simp [frzOk]), ⟨(by first | (exact VW.int (wsucc (by omega)); done) | (exact VW.int rfl; done) | (exact VW.lst rfl rfl; done) | (exact VW.cptr rfl; done) | (exact VW.fn .nil; done) | (exact VW.bool rfl; done) | (exact VW.ptr rfl rfl; done) | (exact VW.sl rfl rfl rfl rfl; done) | (exact VW.no rfl; done) | (exact VW.eo rfl; done) | (exact VW.nils; done) | (exact VW.emp; done) | (exact VW.str rfl; done) | (exact VW.int (by first | (simp; done) | fail); done)), trivial⟩, ⟨(by first | (exact bw_xc rfl; done) | (exact bw_rep rfl; done) | (exact BW.flat rfl (fun c hc => by obtain ⟨a, _, rfl⟩ := List.mem_map.1 hc; exact NB.lst _ _); done) | (exact BW.tik rfl (by first | (simp; done) | omega); done)), (by first | (exact bw_xc rfl; done) | (exact bw_rep rfl; done) | (exact BW.flat rfl (fun c hc => by obtain ⟨a, _, rfl⟩ := List.mem_map.1 hc; exact NB.lst _ _); done) | (exact BW.tik rfl (by first | (simp; done) | omega); done)), trivial⟩⟩; done) | (first | omega | contradiction | (simp_all; done); done)
      first | (exact ⟨trivial, rfl⟩; done) | (exact ⟨rfl, rfl⟩; done) | (trivial; done) | (rfl; done) | (first | omega | contradiction | (simp_all; done); done)
  · refine round_ok env.mixed hC (by kernel_rfl) (r15 iso shr x (x.s.length)) ?_
    simp only [Holds, Pv.Next]
    have hsz := hs.s
    rw [BB_eq] at hsz
    have hq1 := getD_le hs.ss (x.s.length)
    have hkl := csK_len x.s (i := (x.s.length))
    refine ⟨fun h0 => ?_, fun h0 => ?_⟩
    · have g0 := of_decide_eq_true h0
      try simp only [List.length_map] at g0
      refine ⟨?_, ?_⟩
      · first | (exact pst15 rfl (by rw [hkl (by omega)]; omega) (csK_set (by omega)); done) | (exact px_sl (by omega); done) | (exact px26 (by omega); done) | (exact px27 (by omega); done) | (exact px28 (by omega); done) | (first | omega | contradiction | (simp_all; done); done)
      refine ⟨?_, ?_⟩
      · first | (exact pcallD_iso rfl rfl (e35 _ hq1); done) | (first | omega | contradiction | (simp_all; done); done)
      refine ⟨?_, ?_⟩
      · first | (exact pst15 rfl (by rw [hkl (by omega)]; omega) (csK_set (by omega)); done) | (exact px_sl (by omega); done) | (exact px26 (by omega); done) | (exact px27 (by omega); done) | (exact px28 (by omega); done) | (first | omega | contradiction | (simp_all; done); done)
      refine ⟨?_, ?_⟩
      · first | (exact pst15 rfl (by rw [hkl (by omega)]; omega) (csK_set (by omega)); done) | (exact px_sl (by omega); done) | (exact px26 (by omega); done) | (exact px27 (by omega); done) | (exact px28 (by omega); done) | (first | omega | contradiction | (simp_all; done); done)
      refine ⟨?_, ?_⟩
      · first | (exact ⟨trivial, (by first | trivial | simp [frzOk]), ⟨(by first | (exact VW.int (wsucc (by omega)); done) | (exact VW.int rfl; done) | (exact VW.lst rfl rfl; done) | (exact VW.cptr rfl; done) | (exact VW.fn .nil; done) | (exact VW.bool rfl; done) | (exact VW.ptr rfl rfl; done) | (exact VW.sl rfl rfl rfl rfl; done) | (exact VW.no rfl; done) | (exact VW.eo rfl; done) | (exact VW.nils; done) | (exact VW.emp; done) | (exact VW.str rfl; done) | (exact VW.int (by first | (simp; done) | fail); done)), (by first | (exact VW.int (wsucc (by omega)); done) | (exact VW.int rfl; done) | (exact VW.lst rfl rfl; done) | (exact VW.cptr rfl; done) | (exact VW.fn .nil; done) | (exact VW.bool rfl; done) | (exact VW.ptr rfl rfl; done) | (exact VW.sl rfl rfl rfl rfl; done) | (exact VW.no rfl; done) | (exact VW.eo rfl; done) | (exact VW.nils; done) | (exact VW.emp; done) | (exact VW.str rfl; done) | (exact VW.int (by first | (simp; done) | fail); done)), (by first | (exact VW.int (wsucc (by omega)); done) | (exact VW.int rfl; done) | (exact VW.lst rfl rfl; done) | (exact VW.cptr rfl; done) | (exact VW.fn .nil; done) | (exact VW.bool rfl; done) | (exact VW.ptr rfl rfl; done) | (exact VW.sl rfl rfl rfl rfl; done) | (exact VW.no rfl; done) | (exact VW.eo rfl; done) | (exact VW.nils; done) | (exact VW.emp; done) | (exact VW.str rfl; done) | (exact VW.int (by first | (simp; done) | fail); done)), (by first | (exact VW.int (wsucc (by omega)); done) | (exact VW.int rfl; done) | (exact VW.lst rfl rfl; done) | (exact VW.cptr rfl; done) | (exact VW.fn .nil; done) | (exact VW.bool rfl; done) | (exact VW.ptr rfl rfl; done) | (exact VW.sl rfl rfl rfl rfl; done) | (exact VW.no rfl; done) | (exact VW.eo rfl; done) | (exact VW.nils; done) | (exact VW.emp; done) | (exact VW.str rfl; done) | (exact VW.int (by first | (simp; done) | fail); done)), trivial⟩, ⟨(by first | (exact bw_xc rfl; done) | (exact bw_rep rfl; done) | (exact BW.flat rfl (fun c hc => by obtain ⟨a, _, rfl⟩ := List.mem_map.1 hc; exact NB.lst _ _); done) | (exact BW.tik rfl (by first | (simp; done) | omega); done)), (by first | (exact bw_xc rfl; done) | (exact bw_rep rfl; done) | (exact BW.flat rfl (fun c hc => by obtain ⟨a, _, rfl⟩ := List.mem_map.1 hc; exact NB.lst _ _); done) | (exact BW.tik rfl (by first | (simp; done) | omega); done)), trivial⟩⟩; done) | (first | omega | contradiction | (simp_all; done); done)
      first | (exact nx; done) | (first | omega | contradiction | (simp_all; done); done)
    · have g0 := of_decide_eq_false h0
      try simp only [List.length_map] at g0
      refine ⟨by first | trivial | rfl | exact ⟨rfl, trivial⟩ | simp, ?_⟩
      refine ⟨?_, ?_⟩
      · first | (exact ⟨trivial, (by first | trivial | simp [frzOk]), ⟨(by first | (exact VW.int (wsucc (by omega)); done) | (exact VW.int rfl; done) | (exact VW.lst rfl rfl; done) | (exact VW.cptr rfl; done) | (exact VW.fn .nil; done) | (exact VW.bool rfl; done) | (exact VW.ptr rfl rfl; done) | (exact VW.sl rfl rfl rfl rfl; done) | (exact VW.no rfl; done) | (exact VW.eo rfl; done) | (exact VW.nils; done) | (exact VW.emp; done) | (exact VW.str rfl; done) | (exact VW.int (by first | (simp; done) | fail); done)), trivial⟩, ⟨(by first | (exact bw_xc rfl; done) | (exact bw_rep rfl; done) | (exact BW.flat rfl (fun c hc => by obtain ⟨a, _, rfl⟩ := List.mem_map.1 hc; exact NB.lst _ _); done) | (exact BW.tik rfl (by first | (simp; done) | omega); done)), (by first | (exact bw_xc rfl; done) | (exact bw_rep rfl; done) | (exact BW.flat rfl (fun c hc => by obtain ⟨a, _, rfl⟩ := List.mem_map.1 hc; exact NB.lst _ _); done) | (exact BW.tik rfl (by first | (simp; done) | omega); done)), trivial⟩⟩; done) | (first | omega | contradiction | (simp_all; done); done)
      first | (exact ⟨trivial, rfl⟩; done) | (exact ⟨rfl, rfl⟩; done) | (trivial; done) | (rfl; done) | (first | omega | contradiction | (simp_all; done); done)
theorem sh15  (x : Mc) (hs : Sm x) : Sh Tryd.prog X.G 15 [.cptr (Mc.cs x)] [] (.ptr 0 0) ([mbx x]) := by
  obtain ⟨iso, shr, hC, e35, e36⟩ := lh1
  have hsz := hs.s
  rw [BB_eq] at hsz
  refine wfun_ok env hC fd15 (t15 iso shr x) ?_ hhS
  simp only [Holds]
  refine ⟨?_, ?_⟩
  · first | (exact pcallD_iso rfl rfl (e35 _ hs.m); done) | (exact pcallD_iso rfl rfl (e35 _ hs.i); done) | (exact pcallD_iso rfl rfl (e35 _ hs.o); done) | (first | omega | contradiction | (simp_all; done); done)
  refine ⟨?_, ?_⟩
  · first | (exact pcallD_iso rfl rfl (e36 _ hs.c); done) | (first | omega | contradiction | (simp_all; done); done)
  refine ⟨?_, ?_⟩
  · first | (exact pcallD_iso rfl rfl (e35 _ hs.m); done) | (exact pcallD_iso rfl rfl (e35 _ hs.i); done) | (exact pcallD_iso rfl rfl (e35 _ hs.o); done) | (first | omega | contradiction | (simp_all; done); done)
  refine ⟨?_, ?_⟩
  · first | (exact pcallD_iso rfl rfl (e35 _ hs.m); done) | (exact pcallD_iso rfl rfl (e35 _ hs.i); done) | (exact pcallD_iso rfl rfl (e35 _ hs.o); done) | (first | omega | contradiction | (simp_all; done); done)
  refine ⟨?_, ?_⟩
  · first | ((have h := mk15 (hp := [mbx x]) (n := (List.map nums x.s).length) rfl (by rw [List.length_map]; omega); rw [List.length_map] at h; rw [List.length_map]; exact h); done) | (exact px26 (by omega); done) | (exact px27 (by omega); done) | (exact px28 (by omega); done) | (first | omega | contradiction | (simp_all; done); done)
  refine ⟨?_, ?_⟩
  · first | (exact ⟨trivial, (by first | trivial | simp [frzOk]), ⟨(by first | (exact VW.int (wsucc (by omega)); done) | (exact VW.int rfl; done) | (exact VW.lst rfl rfl; done) | (exact VW.cptr rfl; done) | (exact VW.fn .nil; done) | (exact VW.bool rfl; done) | (exact VW.ptr rfl rfl; done) | (exact VW.sl rfl rfl rfl rfl; done) | (exact VW.no rfl; done) | (exact VW.eo rfl; done) | (exact VW.nils; done) | (exact VW.emp; done) | (exact VW.str rfl; done) | (exact VW.int (by first | (simp; done) | fail); done)), (by first | (exact VW.int (wsucc (by omega)); done) | (exact VW.int rfl; done) | (exact VW.lst rfl rfl; done) | (exact VW.cptr rfl; done) | (exact VW.fn .nil; done) | (exact VW.bool rfl; done) | (exact VW.ptr rfl rfl; done) | (exact VW.sl rfl rfl rfl rfl; done) | (exact VW.no rfl; done) | (exact VW.eo rfl; done) | (exact VW.nils; done) | (exact VW.emp; done) | (exact VW.str rfl; done) | (exact VW.int (by first | (simp; done) | fail); done)), (by first | (exact VW.int (wsucc (by omega)); done) | (exact VW.int rfl; done) | (exact VW.lst rfl rfl; done) | (exact VW.cptr rfl; done) | (exact VW.fn .nil; done) | (exact VW.bool rfl; done) | (exact VW.ptr rfl rfl; done) | (exact VW.sl rfl rfl rfl rfl; done) | (exact VW.no rfl; done) | (exact VW.eo rfl; done) | (exact VW.nils; done) | (exact VW.emp; done) | (exact VW.str rfl; done) | (exact VW.int (by first | (simp; done) | fail); done)), (by first | (exact VW.int (wsucc (by omega)); done) | (exact VW.int rfl; done) | (exact VW.lst rfl rfl; done) | (exact VW.cptr rfl; done) | (exact VW.fn .nil; done) | (exact VW.bool rfl; done) | (exact VW.ptr rfl rfl; done) | (exact VW.sl rfl rfl rfl rfl; done) | (exact VW.no rfl; done) | (exact VW.eo rfl; done) | (exact VW.nils; done) | (exact VW.emp; done) | (exact VW.str rfl; done) | (exact VW.int (by first | (simp; done) | fail); done)), trivial⟩, ⟨(by first | (exact bw_xc rfl; done) | (exact bw_rep rfl; done) | (exact BW.flat rfl (fun c hc => by obtain ⟨a, _, rfl⟩ := List.mem_map.1 hc; exact NB.lst _ _); done) | (exact BW.tik rfl (by first | (simp; done) | omega); done)), (by first | (exact bw_xc rfl; done) | (exact bw_rep rfl; done) | (exact BW.flat rfl (fun c hc => by obtain ⟨a, _, rfl⟩ := List.mem_map.1 hc; exact NB.lst _ _); done) | (exact BW.tik rfl (by first | (simp; done) | omega); done)), trivial⟩⟩; done) | (first | omega | contradiction | (simp_all; done); done)
  refine ⟨?_, ?_⟩
  · first | (exact lp15 iso shr hC e35 x hs; done) | (first | omega | contradiction | (simp_all; done); done)
  first | (exact res15; done) | (first | omega | contradiction | (simp_all; done); done)
end Go.Proofs.YtfhojpnofmlkdaaDoor
