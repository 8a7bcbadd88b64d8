/- Functions of this stage, by what they answer. -/
import Derived.Test.YtfhojpnofmlkdaaDoorCa
namespace Go.Proofs.YtfhojpnofmlkdaaDoor
open Go.Proofs.YtfhojpnofmlkdaaDoor.Pv Go.RowKit
set_option maxRecDepth 100000
set_option maxHeartbeats 4000000
set_option linter.unusedSimpArgs false
set_option linter.unusedVariables false
set_option maxHeartbeats 2000000
theorem map_inj {α : Type} {f : α → PV} (hf : ∀ a b, f a = f b → a = b) : ∀ {l m : List α}, l.map f = m.map f → l = m
  | [], [], _ => rfl
  | a :: l, b :: m, h => by simp only [List.map_cons, List.cons.injEq] at h; rw [hf _ _ h.1, map_inj hf h.2]
  | [], _ :: _, h => by simp at h
  | _ :: _, [], h => by simp at h
theorem nums_inj {a b : List Int} : nums a = nums b ↔ a = b := ⟨fun h => by unfold nums at h; simp only [PV.lst.injEq, true_and] at h; exact map_inj (fun a b h => by unfold J at h; simpa using h) h, fun h => by rw [h]⟩
theorem stks_inj {a b : List (List Int)} : stks a = stks b ↔ a = b := ⟨fun h => by unfold stks at h; simp only [PV.lst.injEq, true_and] at h; exact map_inj (fun a b h => nums_inj.1 h) h, fun h => by rw [h]⟩
theorem Ac_inj {a b : Ac} (h : a.pv = b.pv) : a = b := by obtain ⟨x, y⟩ := a; obtain ⟨x', y'⟩ := b; simp [Ac.pv, Ac.cs, J] at h; simp [h]
theorem acts_inj {a b : List Ac} : acts a = acts b ↔ a = b := ⟨fun h => by unfold acts at h; simp only [PV.lst.injEq, true_and] at h; exact map_inj (fun a b h => Ac_inj h) h, fun h => by rw [h]⟩
theorem J_inj {a b : Int} : J a = J b ↔ a = b := by unfold J; simp
theorem cs_inj {a b : Mc} (h : a.cs = b.cs) : a = b := by
  obtain ⟨p, d, ⟨x0, x1, x2, x3, x4, x5, x6, x7, x8, x9, x10, x11, x12, x13, x14, x15⟩, m, s, c, f, sb, i, o⟩ := a
  obtain ⟨p', d', ⟨y0, y1, y2, y3, y4, y5, y6, y7, y8, y9, y10, y11, y12, y13, y14, y15⟩, m', s', c', f', sb', i', o'⟩ := b
  simp only [Mc.cs, List.cons.injEq, J_inj, nums_inj, stks_inj, acts_inj, and_true] at h
  simp only [Mc.mk.injEq, R16.mk.injEq]
  simp [h]
theorem Mc_inj {a b : Mc} : a.pv = b.pv ↔ a = b := ⟨fun h => by unfold Mc.pv at h; simp only [PV.agg.injEq] at h; exact cs_inj h, fun h => by rw [h]⟩
theorem mbx_inj {a b : Mc} : mbx a = mbx b ↔ a = b := ⟨fun h => by unfold mbx at h; simp only [Pv.Box.mk.injEq, true_and, and_true] at h; exact cs_inj h, fun h => by rw [h]⟩
theorem imgP_inj {l l' : List Ins} {m m' s s' : Int} : imgP l m s = imgP l' m' s' ↔ l = l' ∧ m = m' ∧ s = s' := ⟨fun h => by unfold imgP at h; simp only [PV.agg.injEq, List.cons.injEq, PV.lst.injEq, PV.int.injEq, true_and, and_true] at h; exact ⟨pv_inj h.1, h.2⟩, fun h => by rw [h.1, h.2.1, h.2.2]⟩
theorem ArgPv_inj {a b : Arg} : a.pv = b.pv ↔ a = b := ⟨fun h => by
    cases a <;> cases b <;> simp only [Arg.pv] at h
    · rw [Mc_inj.1 h]
    · simp [Mc.pv, Mc.cs, zN, nums] at h
    · simp [Mc.pv, Mc.cs, wN, acts] at h
    · simp [Mc.pv, Mc.cs, zN, nums] at h
    · rfl
    · simp [zN, wN, nums] at h
    · simp [Mc.pv, Mc.cs, wN, acts] at h
    · simp [zN, wN, nums] at h
    · rename_i m s i m' s' i'
      simp only [wN, PV.agg.injEq, List.cons.injEq, nums_inj, PV.lst.injEq, true_and, and_true] at h
      have h1 := congrArg List.length h.1
      have h2 := congrArg List.length h.2.1
      simp at h1 h2
      rw [h1, h2, h.2.2], fun h => by rw [h]⟩
theorem sz3 : szT Tryd.prog 3 = some 1 := by kernel_rfl
theorem sz26 : szT Tryd.prog 26 = some 1 := by kernel_rfl
theorem sz56 : szT Tryd.prog 56 = some 2 := by kernel_rfl
theorem z3 : zeroP Tryd.prog 3 = some [.int .i64 0] := by kernel_rfl
theorem z26 : zeroP Tryd.prog 26 = some [.nils] := by kernel_rfl
theorem bytes3 {n : Nat} (h : n ≤ 4294967296) : bytesOk Tryd.prog 3 n = true := bytes_ok (by kernel_rfl) h
theorem bytes26 {n : Nat} (h : n ≤ 4294967296) : bytesOk Tryd.prog 26 n = true := bytes_ok (by kernel_rfl) h
theorem px26 {l : List Int} {i : Nat} {hp : List Pv.Box} (h : i < l.length) : (pidx Tryd.prog 26 (.lst 1 (l.map J)) (.int .i64 (i : Int))).map (fun v => (v, hp)) = some (.cptr [.int .i64 (List.getD l i 0)], hp) := px_map Tryd.underlying26 sz3 h rfl
theorem px27 {l : List (List Int)} {i : Nat} {hp : List Pv.Box} (h : i < l.length) : (pidx Tryd.prog 27 (.lst 1 (l.map nums)) (.int .i64 (i : Int))).map (fun v => (v, hp)) = some (.cptr [.lst 1 (List.map J (List.getD l i default))], hp) := px_map Tryd.underlying27 sz26 h rfl
theorem px28 {l : List Ac} {i : Nat} {hp : List Pv.Box} (h : i < l.length) : (pidx Tryd.prog 28 (.lst 2 (l.map Ac.pv)) (.int .i64 (i : Int))).map (fun v => (v, hp)) = some (.cptr [.int .i64 (Ac.site (List.getD l i default)), .bool (Ac.turn (List.getD l i default))], hp) := px_map Tryd.underlying28 sz56 h rfl
theorem iso0 : OrcOk Tryd.prog X.G ⟨fun _ _ => none, no_shr, ownS X.sh, []⟩ := ⟨(fun _ _ _ h => by cases h), (fun _ _ _ _ _ h => by cases h)⟩
theorem shC2 {iso : Nat → List PV → Option PV} {shr : Nat → List PV → List Pv.Box → Option (PV × List Pv.Box)} {s : Nat → Bool} (n : Nat) : (Orc.mk iso shr s []).sh n = s n := rfl
theorem hhG2 {iso : Nat → List PV → Option PV} {shr : Nat → List PV → List Pv.Box → Option (PV × List Pv.Box)} {sh : Nat → Bool} : (Orc.mk iso shr (ownS sh) []).hs = fun g => sh (g + Pv.far) := by
  funext g
  have h := ownS_far sh (g + Pv.far) (by unfold Pv.far; omega)
  rw [Pv.hs_at, shC2, h]
theorem hhS {iso : Nat → List PV → Option PV} {shr : Nat → List PV → List Pv.Box → Option (PV × List Pv.Box)} : (Orc.mk iso shr (ownS X.sh) []).hs = X.hs := hhG2
theorem orcS {t : Tab} {u : TabS} (ht : TabOk Tryd.prog X.G t) (hu : TabSOk Tryd.prog X.G u) : OrcOk Tryd.prog X.G ⟨(tab X.sh t u).iso, (tab X.sh t u).shr, ownS X.sh, []⟩ := ⟨(tab_orc ht hu).iso, (tab_orc ht hu).shr⟩
def BB : Nat := 1000000
theorem BB_eq : BB = 1000000 := rfl
theorem eqL {α : Type} [DecidableEq α] (d : α) {a b : List α} : decide (a = b) = true ↔ a.length = b.length ∧ ∀ j, j < a.length → decide (a.getD j d = b.getD j d) = true := by
  simp only [decide_eq_true_eq]
  exact ⟨fun h => by subst h; exact ⟨rfl, fun _ _ => rfl⟩, fun h => ext_getD h.1 h.2⟩
theorem eqL' {α : Type} [DecidableEq α] (d : α) {a b : List α} (hl : a.length = b.length) (h : ∀ j, j < a.length → decide (a.getD j d = b.getD j d) = true) : a = b := ext_getD hl (fun j hj => of_decide_eq_true (h j hj))
theorem getD_le {a : List (List Int)} (h : ∀ x ∈ a, x.length ≤ BB) (i : Nat) : (a.getD i default).length ≤ BB := getD_all (p := fun x : List Int => x.length ≤ BB) h (Nat.zero_le _)
def hd41 (a : List Int) (b : List Int) (i : Nat) : PS := ⟨⟨26, [(5, .int .i64 ((i : Nat) : Int)), (1, nums b), (0, nums a)]⟩, []⟩
def en41 (a : List Int) (b : List Int) : PS := ⟨⟨26, []⟩, []⟩
theorem lp41 (iso : Nat → List PV → Option PV) (shr : Nat → List PV → List Pv.Box → Option (PV × List Pv.Box)) (hC : OrcOk Tryd.prog X.G ⟨iso, shr, ownS X.sh, []⟩)  (a : List Int) (b : List Int) (hl : a.length = b.length) (ha : a.length ≤ BB) : ((∀ j, j < a.length → decide (a.getD j 0 = b.getD j 0) = true) → LoopOk Tryd.prog X.G 0 (lpB Tryd.f41 4) (hd41 a b 0) (.exit 0) (en41 a b)) ∧ (∀ j, j < a.length → decide (a.getD j 0 = b.getD j 0) = false → (∀ k, k < j → decide (a.getD k 0 = b.getD k 0) = true) → LoopOk Tryd.prog X.G 0 (lpB Tryd.f41 4) (hd41 a b 0) .ret ⟨⟨26, [(4, .bool false)]⟩, []⟩) := by
  refine loop_first (S := hd41 a b) (c := fun i => decide (a.getD i 0 = b.getD i 0)) (e1 := fun i => (.ret, ⟨⟨26, [(4, .bool false)]⟩, []⟩)) (e2 := (.exit 0, en41 a b)) (fun i hi hc ep sp nx => ?_) (fun i hi hc => ?_) ?_
  · refine round_ok env.mixed hC (by kernel_rfl) (r41 iso shr a b i) ?_
    simp only [Holds, Pv.Next]
    rw [BB_eq] at ha
    try simp only [decide_eq_true_eq, decide_eq_false_iff_not] at hc
    refine ⟨fun h0 => ?_, fun h0 => ?_⟩
    · have g0 := of_decide_eq_true h0
      try simp only [List.length_map] at g0
      refine ⟨?_, ?_⟩
      · first | (exact px26 (by omega); done) | (exact px27 (by omega); done) | (exact px28 (by omega); done) | (first | omega | contradiction | (simp_all; done); done)
      refine ⟨?_, ?_⟩
      · first | (exact px26 (by omega); done) | (exact px27 (by omega); done) | (exact px28 (by omega); done) | (first | omega | contradiction | (simp_all; done); done)
      refine ⟨fun h1 => ?_, fun h1 => ?_⟩
      · have g1 := bne_iff_ne.1 h1
        try simp only [List.length_map] at g1
        refine ⟨by first | trivial | rfl | exact ⟨rfl, trivial⟩ | simp, ?_⟩
        refine ⟨?_, ?_⟩
        · first | (exact ⟨trivial, (by first | trivial | simp [frzOk]), ⟨(by first | (exact VW.int (wsucc (by omega)); done) | (exact VW.int rfl; done) | (exact VW.lst rfl rfl; done) | (exact VW.cptr rfl; done) | (exact VW.fn .nil; done) | (exact VW.bool rfl; done) | (exact VW.ptr rfl rfl; done) | (exact VW.sl rfl rfl rfl rfl; done) | (exact VW.no rfl; done) | (exact VW.eo rfl; done) | (exact VW.nils; done) | (exact VW.emp; done) | (exact VW.str rfl; done) | (exact VW.int (by first | (simp; done) | fail); done)), trivial⟩, trivial⟩; done) | (first | omega | contradiction | (simp_all; done); done)
        first | (exact ⟨trivial, rfl⟩; done) | (exact ⟨rfl, rfl⟩; done) | (trivial; done) | (rfl; done) | (first | omega | contradiction | (simp_all; done); done)
      · have g1 := bne_eq_false_iff_eq.1 h1
        try simp only [List.length_map] at g1
        refine ⟨?_, ?_⟩
        · first | (exact ⟨trivial, (by first | trivial | simp [frzOk]), ⟨(by first | (exact VW.int (wsucc (by omega)); done) | (exact VW.int rfl; done) | (exact VW.lst rfl rfl; done) | (exact VW.cptr rfl; done) | (exact VW.fn .nil; done) | (exact VW.bool rfl; done) | (exact VW.ptr rfl rfl; done) | (exact VW.sl rfl rfl rfl rfl; done) | (exact VW.no rfl; done) | (exact VW.eo rfl; done) | (exact VW.nils; done) | (exact VW.emp; done) | (exact VW.str rfl; done) | (exact VW.int (by first | (simp; done) | fail); done)), (by first | (exact VW.int (wsucc (by omega)); done) | (exact VW.int rfl; done) | (exact VW.lst rfl rfl; done) | (exact VW.cptr rfl; done) | (exact VW.fn .nil; done) | (exact VW.bool rfl; done) | (exact VW.ptr rfl rfl; done) | (exact VW.sl rfl rfl rfl rfl; done) | (exact VW.no rfl; done) | (exact VW.eo rfl; done) | (exact VW.nils; done) | (exact VW.emp; done) | (exact VW.str rfl; done) | (exact VW.int (by first | (simp; done) | fail); done)), (by first | (exact VW.int (wsucc (by omega)); done) | (exact VW.int rfl; done) | (exact VW.lst rfl rfl; done) | (exact VW.cptr rfl; done) | (exact VW.fn .nil; done) | (exact VW.bool rfl; done) | (exact VW.ptr rfl rfl; done) | (exact VW.sl rfl rfl rfl rfl; done) | (exact VW.no rfl; done) | (exact VW.eo rfl; done) | (exact VW.nils; done) | (exact VW.emp; done) | (exact VW.str rfl; done) | (exact VW.int (by first | (simp; done) | fail); done)), trivial⟩, trivial⟩; done) | (first | omega | contradiction | (simp_all; done); done)
        first | (exact nx; done) | (first | omega | contradiction | (simp_all; done); done)
    · have g0 := of_decide_eq_false h0
      try simp only [List.length_map] at g0
      refine ⟨by first | trivial | rfl | exact ⟨rfl, trivial⟩ | simp, ?_⟩
      refine ⟨?_, ?_⟩
      · first | (exact ⟨trivial, (by first | trivial | simp [frzOk]), trivial, trivial⟩; done) | (first | omega | contradiction | (simp_all; done); done)
      first | (exact ⟨trivial, rfl⟩; done) | (exact ⟨rfl, rfl⟩; done) | (trivial; done) | (rfl; done) | (first | omega | contradiction | (simp_all; done); done)
  · refine round_ok env.mixed hC (by kernel_rfl) (r41 iso shr a b i) ?_
    simp only [Holds, Pv.Next]
    rw [BB_eq] at ha
    try simp only [decide_eq_true_eq, decide_eq_false_iff_not] at hc
    refine ⟨fun h0 => ?_, fun h0 => ?_⟩
    · have g0 := of_decide_eq_true h0
      try simp only [List.length_map] at g0
      refine ⟨?_, ?_⟩
      · first | (exact px26 (by omega); done) | (exact px27 (by omega); done) | (exact px28 (by omega); done) | (first | omega | contradiction | (simp_all; done); done)
      refine ⟨?_, ?_⟩
      · first | (exact px26 (by omega); done) | (exact px27 (by omega); done) | (exact px28 (by omega); done) | (first | omega | contradiction | (simp_all; done); done)
      refine ⟨fun h1 => ?_, fun h1 => ?_⟩
      · have g1 := bne_iff_ne.1 h1
        try simp only [List.length_map] at g1
        refine ⟨by first | trivial | rfl | exact ⟨rfl, trivial⟩ | simp, ?_⟩
        refine ⟨?_, ?_⟩
        · first | (exact ⟨trivial, (by first | trivial | simp [frzOk]), ⟨(by first | (exact VW.int (wsucc (by omega)); done) | (exact VW.int rfl; done) | (exact VW.lst rfl rfl; done) | (exact VW.cptr rfl; done) | (exact VW.fn .nil; done) | (exact VW.bool rfl; done) | (exact VW.ptr rfl rfl; done) | (exact VW.sl rfl rfl rfl rfl; done) | (exact VW.no rfl; done) | (exact VW.eo rfl; done) | (exact VW.nils; done) | (exact VW.emp; done) | (exact VW.str rfl; done) | (exact VW.int (by first | (simp; done) | fail); done)), trivial⟩, trivial⟩; done) | (first | omega | contradiction | (simp_all; done); done)
        first | (exact ⟨trivial, rfl⟩; done) | (exact ⟨rfl, rfl⟩; done) | (trivial; done) | (rfl; done) | (first | omega | contradiction | (simp_all; done); done)
      · have g1 := bne_eq_false_iff_eq.1 h1
        try simp only [List.length_map] at g1
        refine ⟨?_, ?_⟩
        · first | (exact ⟨trivial, (by first | trivial | simp [frzOk]), ⟨(by first | (exact VW.int (wsucc (by omega)); done) | (exact VW.int rfl; done) | (exact VW.lst rfl rfl; done) | (exact VW.cptr rfl; done) | (exact VW.fn .nil; done) | (exact VW.bool rfl; done) | (exact VW.ptr rfl rfl; done) | (exact VW.sl rfl rfl rfl rfl; done) | (exact VW.no rfl; done) | (exact VW.eo rfl; done) | (exact VW.nils; done) | (exact VW.emp; done) | (exact VW.str rfl; done) | (exact VW.int (by first | (simp; done) | fail); done)), (by first | (exact VW.int (wsucc (by omega)); done) | (exact VW.int rfl; done) | (exact VW.lst rfl rfl; done) | (exact VW.cptr rfl; done) | (exact VW.fn .nil; done) | (exact VW.bool rfl; done) | (exact VW.ptr rfl rfl; done) | (exact VW.sl rfl rfl rfl rfl; done) | (exact VW.no rfl; done) | (exact VW.eo rfl; done) | (exact VW.nils; done) | (exact VW.emp; done) | (exact VW.str rfl; done) | (exact VW.int (by first | (simp; done) | fail); done)), (by first | (exact VW.int (wsucc (by omega)); done) | (exact VW.int rfl; done) | (exact VW.lst rfl rfl; done) | (exact VW.cptr rfl; done) | (exact VW.fn .nil; done) | (exact VW.bool rfl; done) | (exact VW.ptr rfl rfl; done) | (exact VW.sl rfl rfl rfl rfl; done) | (exact VW.no rfl; done) | (exact VW.eo rfl; done) | (exact VW.nils; done) | (exact VW.emp; done) | (exact VW.str rfl; done) | (exact VW.int (by first | (simp; done) | fail); done)), trivial⟩, trivial⟩; done) | (first | omega | contradiction | (simp_all; done); done)
        first | (exact nx; done) | (first | omega | contradiction | (simp_all; done); done)
    · have g0 := of_decide_eq_false h0
      try simp only [List.length_map] at g0
      refine ⟨by first | trivial | rfl | exact ⟨rfl, trivial⟩ | simp, ?_⟩
      refine ⟨?_, ?_⟩
      · first | (exact ⟨trivial, (by first | trivial | simp [frzOk]), trivial, trivial⟩; done) | (first | omega | contradiction | (simp_all; done); done)
      first | (exact ⟨trivial, rfl⟩; done) | (exact ⟨rfl, rfl⟩; done) | (trivial; done) | (rfl; done) | (first | omega | contradiction | (simp_all; done); done)
  · refine round_ok env.mixed hC (by kernel_rfl) (r41 iso shr a b (a.length)) ?_
    simp only [Holds, Pv.Next]
    rw [BB_eq] at ha
    refine ⟨fun h0 => ?_, fun h0 => ?_⟩
    · have g0 := of_decide_eq_true h0
      try simp only [List.length_map] at g0
      refine ⟨?_, ?_⟩
      · first | (exact px26 (by omega); done) | (exact px27 (by omega); done) | (exact px28 (by omega); done) | (first | omega | contradiction | (simp_all; done); done)
      refine ⟨?_, ?_⟩
      · first | (exact px26 (by omega); done) | (exact px27 (by omega); done) | (exact px28 (by omega); done) | (first | omega | contradiction | (simp_all; done); done)
      refine ⟨fun h1 => ?_, fun h1 => ?_⟩
      · have g1 := bne_iff_ne.1 h1
        try simp only [List.length_map] at g1
        refine ⟨by first | trivial | rfl | exact ⟨rfl, trivial⟩ | simp, ?_⟩
        refine ⟨?_, ?_⟩
        · first | (exact ⟨trivial, (by first | trivial | simp [frzOk]), ⟨(by first | (exact VW.int (wsucc (by omega)); done) | (exact VW.int rfl; done) | (exact VW.lst rfl rfl; done) | (exact VW.cptr rfl; done) | (exact VW.fn .nil; done) | (exact VW.bool rfl; done) | (exact VW.ptr rfl rfl; done) | (exact VW.sl rfl rfl rfl rfl; done) | (exact VW.no rfl; done) | (exact VW.eo rfl; done) | (exact VW.nils; done) | (exact VW.emp; done) | (exact VW.str rfl; done) | (exact VW.int (by first | (simp; done) | fail); done)), trivial⟩, trivial⟩; done) | (first | omega | contradiction | (simp_all; done); done)
        first | (exact ⟨trivial, rfl⟩; done) | (exact ⟨rfl, rfl⟩; done) | (trivial; done) | (rfl; done) | (first | omega | contradiction | (simp_all; done); done)
      · have g1 := bne_eq_false_iff_eq.1 h1
        try simp only [List.length_map] at g1
        refine ⟨?_, ?_⟩
        · first | (exact ⟨trivial, (by first | trivial | simp [frzOk]), ⟨(by first | (exact VW.int (wsucc (by omega)); done) | (exact VW.int rfl; done) | (exact VW.lst rfl rfl; done) | (exact VW.cptr rfl; done) | (exact VW.fn .nil; done) | (exact VW.bool rfl; done) | (exact VW.ptr rfl rfl; done) | (exact VW.sl rfl rfl rfl rfl; done) | (exact VW.no rfl; done) | (exact VW.eo rfl; done) | (exact VW.nils; done) | (exact VW.emp; done) | (exact VW.str rfl; done) | (exact VW.int (by first | (simp; done) | fail); done)), (by first | (exact VW.int (wsucc (by omega)); done) | (exact VW.int rfl; done) | (exact VW.lst rfl rfl; done) | (exact VW.cptr rfl; done) | (exact VW.fn .nil; done) | (exact VW.bool rfl; done) | (exact VW.ptr rfl rfl; done) | (exact VW.sl rfl rfl rfl rfl; done) | (exact VW.no rfl; done) | (exact VW.eo rfl; done) | (exact VW.nils; done) | (exact VW.emp; done) | (exact VW.str rfl; done) | (exact VW.int (by first | (simp; done) | fail); done)), (by first | (exact VW.int (wsucc (by omega)); done) | (exact VW.int rfl; done) | (exact VW.lst rfl rfl; done) | (exact VW.cptr rfl; done) | (exact VW.fn .nil; done) | (exact VW.bool rfl; done) | (exact VW.ptr rfl rfl; done) | (exact VW.sl rfl rfl rfl rfl; done) | (exact VW.no rfl; done) | (exact VW.eo rfl; done) | (exact VW.nils; done) | (exact VW.emp; done) | (exact VW.str rfl; done) | (exact VW.int (by first | (simp; done) | fail); done)), trivial⟩, trivial⟩; done) | (first | omega | contradiction | (simp_all; done); done)
        first | (exact nx; done) | (first | omega | contradiction | (simp_all; done); done)
    · have g0 := of_decide_eq_false h0
      try simp only [List.length_map] at g0
      refine ⟨by first | trivial | rfl | exact ⟨rfl, trivial⟩ | simp, ?_⟩
      refine ⟨?_, ?_⟩
      · first | (exact ⟨trivial, (by first | trivial | simp [frzOk]), trivial, trivial⟩; done) | (first | omega | contradiction | (simp_all; done); done)
      first | (exact ⟨trivial, rfl⟩; done) | (exact ⟨rfl, rfl⟩; done) | (trivial; done) | (rfl; done) | (first | omega | contradiction | (simp_all; done); done)
theorem ok41  (a : List Int) (b : List Int) (ha : a.length ≤ BB) : Ok Tryd.prog X.G 41 [nums a, nums b] (.bool (decide (a = b))) := by
  obtain ⟨iso, shr, hC⟩ : ∃ iso shr, OrcOk Tryd.prog X.G ⟨iso, shr, ownS X.sh, []⟩ := ⟨_, _, iso0⟩
  by_cases he : ∀ j, j < a.length → decide (a.getD j 0 = b.getD j 0) = true
  ·
    refine wok env hC fd41 (t41a iso shr a b) ?_ hhS
    simp only [Holds]
    refine ⟨fun h0 => ?_, fun h0 => ?_⟩
    · have g0 := bne_iff_ne.1 h0
      try simp only [List.length_map] at g0
      first | (exact fin_b (Eq.symm ((eqL 0).2 ⟨by omega, he⟩)); done) | (exact fin_b (Eq.symm (decide_eq_false (fun h => by subst h; exact absurd rfl (of_decide_eq_false j2)))); done) | (exact fin_b (Eq.symm (decide_eq_false (fun h => by subst h; first | omega | contradiction))); done) | (first | omega | contradiction | (simp_all; done); done)
    · have g0 := bne_eq_false_iff_eq.1 h0
      try simp only [List.length_map] at g0
      refine ⟨?_, ?_⟩
      · first | (exact ⟨trivial, (by first | trivial | simp [frzOk]), ⟨(by first | (exact VW.int (wsucc (by omega)); done) | (exact VW.int rfl; done) | (exact VW.lst rfl rfl; done) | (exact VW.cptr rfl; done) | (exact VW.fn .nil; done) | (exact VW.bool rfl; done) | (exact VW.ptr rfl rfl; done) | (exact VW.sl rfl rfl rfl rfl; done) | (exact VW.no rfl; done) | (exact VW.eo rfl; done) | (exact VW.nils; done) | (exact VW.emp; done) | (exact VW.str rfl; done) | (exact VW.int (by first | (simp; done) | fail); done)), (by first | (exact VW.int (wsucc (by omega)); done) | (exact VW.int rfl; done) | (exact VW.lst rfl rfl; done) | (exact VW.cptr rfl; done) | (exact VW.fn .nil; done) | (exact VW.bool rfl; done) | (exact VW.ptr rfl rfl; done) | (exact VW.sl rfl rfl rfl rfl; done) | (exact VW.no rfl; done) | (exact VW.eo rfl; done) | (exact VW.nils; done) | (exact VW.emp; done) | (exact VW.str rfl; done) | (exact VW.int (by first | (simp; done) | fail); done)), (by first | (exact VW.int (wsucc (by omega)); done) | (exact VW.int rfl; done) | (exact VW.lst rfl rfl; done) | (exact VW.cptr rfl; done) | (exact VW.fn .nil; done) | (exact VW.bool rfl; done) | (exact VW.ptr rfl rfl; done) | (exact VW.sl rfl rfl rfl rfl; done) | (exact VW.no rfl; done) | (exact VW.eo rfl; done) | (exact VW.nils; done) | (exact VW.emp; done) | (exact VW.str rfl; done) | (exact VW.int (by first | (simp; done) | fail); done)), trivial⟩, trivial⟩; done) | (first | omega | contradiction | (simp_all; done); done)
      refine ⟨?_, ?_⟩
      · first | (exact (lp41 iso shr hC a b (by omega) ha).1 he; done) | (first | omega | contradiction | (simp_all; done); done)
      first | (exact fin_b (Eq.symm ((eqL 0).2 ⟨by omega, he⟩)); done) | (exact fin_b (Eq.symm (decide_eq_false (fun h => by subst h; exact absurd rfl (of_decide_eq_false j2)))); done) | (exact fin_b (Eq.symm (decide_eq_false (fun h => by subst h; first | omega | contradiction))); done) | (first | omega | contradiction | (simp_all; done); done)
  · obtain ⟨j, j1, j2, j3⟩ := first_false he
    refine wok env hC fd41 (t41b iso shr a b j) ?_ hhS
    simp only [Holds]
    refine ⟨fun h0 => ?_, fun h0 => ?_⟩
    · have g0 := bne_iff_ne.1 h0
      try simp only [List.length_map] at g0
      first | (exact fin_b (Eq.symm ((eqL 0).2 ⟨by omega, he⟩)); done) | (exact fin_b (Eq.symm (decide_eq_false (fun h => by subst h; exact absurd rfl (of_decide_eq_false j2)))); done) | (exact fin_b (Eq.symm (decide_eq_false (fun h => by subst h; first | omega | contradiction))); done) | (first | omega | contradiction | (simp_all; done); done)
    · have g0 := bne_eq_false_iff_eq.1 h0
      try simp only [List.length_map] at g0
      refine ⟨?_, ?_⟩
      · first | (exact ⟨trivial, (by first | trivial | simp [frzOk]), ⟨(by first | (exact VW.int (wsucc (by omega)); done) | (exact VW.int rfl; done) | (exact VW.lst rfl rfl; done) | (exact VW.cptr rfl; done) | (exact VW.fn .nil; done) | (exact VW.bool rfl; done) | (exact VW.ptr rfl rfl; done) | (exact VW.sl rfl rfl rfl rfl; done) | (exact VW.no rfl; done) | (exact VW.eo rfl; done) | (exact VW.nils; done) | (exact VW.emp; done) | (exact VW.str rfl; done) | (exact VW.int (by first | (simp; done) | fail); done)), (by first | (exact VW.int (wsucc (by omega)); done) | (exact VW.int rfl; done) | (exact VW.lst rfl rfl; done) | (exact VW.cptr rfl; done) | (exact VW.fn .nil; done) | (exact VW.bool rfl; done) | (exact VW.ptr rfl rfl; done) | (exact VW.sl rfl rfl rfl rfl; done) | (exact VW.no rfl; done) | (exact VW.eo rfl; done) | (exact VW.nils; done) | (exact VW.emp; done) | (exact VW.str rfl; done) | (exact VW.int (by first | (simp; done) | fail); done)), (by first | (exact VW.int (wsucc (by omega)); done) | (exact VW.int rfl; done) | (exact VW.lst rfl rfl; done) | (exact VW.cptr rfl; done) | (exact VW.fn .nil; done) | (exact VW.bool rfl; done) | (exact VW.ptr rfl rfl; done) | (exact VW.sl rfl rfl rfl rfl; done) | (exact VW.no rfl; done) | (exact VW.eo rfl; done) | (exact VW.nils; done) | (exact VW.emp; done) | (exact VW.str rfl; done) | (exact VW.int (by first | (simp; done) | fail); done)), trivial⟩, trivial⟩; done) | (first | omega | contradiction | (simp_all; done); done)
      refine ⟨?_, ?_⟩
      · first | (exact (lp41 iso shr hC a b (by omega) ha).2 j j1 j2 j3; done) | (first | omega | contradiction | (simp_all; done); done)
      first | (exact fin_b (Eq.symm ((eqL 0).2 ⟨by omega, he⟩)); done) | (exact fin_b (Eq.symm (decide_eq_false (fun h => by subst h; exact absurd rfl (of_decide_eq_false j2)))); done) | (exact fin_b (Eq.symm (decide_eq_false (fun h => by subst h; first | omega | contradiction))); done) | (first | omega | contradiction | (simp_all; done); done)
theorem lf1 : ∃ (iso : Nat → List PV → Option PV) (shr : Nat → List PV → List Pv.Box → Option (PV × List Pv.Box)), OrcOk Tryd.prog X.G ⟨iso, shr, ownS X.sh, []⟩ ∧ (∀ (a : List Int) (b : List Int), (a.length ≤ BB) → iso 41 [nums a, nums b] = some (.bool (decide (a = b)))) := by
  obtain ⟨h41, e41, o41⟩ := ent_ex (fun q : (List Int) × (List Int) => (q.1).length ≤ BB) (fun q => ([nums (q.1), nums (q.2)], .bool (decide ((q.1) = (q.2))))) (fun a b h => by simp only [List.cons.injEq, nums_inj, stks_inj, acts_inj, Mc_inj, imgP_inj, mbx_inj, PV.int.injEq, ArgPv_inj, and_true, true_and] at h; first | rfl | (simp only [h]; done) | (simp [h]; done))
  have hT : TabOk Tryd.prog X.G [(41, h41)] := tk (fun l r e => by obtain ⟨a, ha, rfl, rfl⟩ := o41 l r e; exact ok41 (a.1) (a.2) ha) tn
  have hS : TabSOk Tryd.prog X.G [] := tn'
  exact ⟨_, _, orcS hT hS, fun a b hp => e41 (a, b) hp⟩
structure Sm (x : Mc) : Prop where
  m : x.m.length ≤ BB
  s : x.s.length ≤ BB
  ss : ∀ c ∈ x.s, c.length ≤ BB
  c : x.c.length ≤ BB
  i : x.i.length ≤ BB
  o : x.o.length ≤ BB
def hd17s (a : Mc) (b : Mc) (i : Nat) : PS := ⟨⟨119, [(5, .int .i64 ((i : Nat) : Int)), (3, .cptr (Mc.cs b)), (2, .cptr (Mc.cs a))]⟩, []⟩
def en17s (a : Mc) (b : Mc) : PS := ⟨⟨119, [(3, .cptr (Mc.cs b)), (2, .cptr (Mc.cs a))]⟩, []⟩
theorem lp17s (iso : Nat → List PV → Option PV) (shr : Nat → List PV → List Pv.Box → Option (PV × List Pv.Box)) (hC : OrcOk Tryd.prog X.G ⟨iso, shr, ownS X.sh, []⟩) (e41 : ∀ (a : List Int) (b : List Int), (a.length ≤ BB) → iso 41 [nums a, nums b] = some (.bool (decide (a = b)))) (a : Mc) (b : Mc) (hl : a.s.length = b.s.length) (hs : Sm a) : ((∀ j, j < a.s.length → decide (a.s.getD j default = b.s.getD j default) = true) → LoopOk Tryd.prog X.G 0 (lpB Tryd.f17 4) (hd17s a b 0) (.exit 0) (en17s a b)) ∧ (∀ j, j < a.s.length → decide (a.s.getD j default = b.s.getD j default) = false → (∀ k, k < j → decide (a.s.getD k default = b.s.getD k default) = true) → LoopOk Tryd.prog X.G 0 (lpB Tryd.f17 4) (hd17s a b 0) .ret ⟨⟨119, [(4, .bool false)]⟩, []⟩) := by
  refine loop_first (S := hd17s a b) (c := fun i => decide (a.s.getD i default = b.s.getD i default)) (e1 := fun i => (.ret, ⟨⟨119, [(4, .bool false)]⟩, []⟩)) (e2 := (.exit 0, en17s a b)) (fun i hi hc ep sp nx => ?_) (fun i hi hc => ?_) ?_
  · refine round_ok env.mixed hC (by kernel_rfl) (r17s iso shr a b i) ?_
    simp only [Holds, Pv.Next]
    have hsz := hs.s
    rw [BB_eq] at hsz
    have hq1 := getD_le hs.ss i
    try simp only [decide_eq_true_eq, decide_eq_false_iff_not] at hc
    refine ⟨fun h0 => ?_, fun h0 => ?_⟩
    · have g0 := of_decide_eq_true h0
      try simp only [List.length_map] at g0
      refine ⟨?_, ?_⟩
      · first | (exact px26 (by omega); done) | (exact px27 (by omega); done) | (exact px28 (by omega); done) | (first | omega | contradiction | (exact absurd (by assumption) hc) | (simp_all; done); done)
      refine ⟨?_, ?_⟩
      · first | (exact px26 (by omega); done) | (exact px27 (by omega); done) | (exact px28 (by omega); done) | (first | omega | contradiction | (exact absurd (by assumption) hc) | (simp_all; done); done)
      refine ⟨fun h1 => ?_, fun h1 => ?_⟩
      · have g1 := of_decide_eq_true h1
        try simp only [List.length_map] at g1
        refine ⟨?_, ?_⟩
        · first | (exact pcallD_iso rfl rfl (by rw [← h1]; exact e41 _ _ hq1); done) | (exact pcallD_iso rfl rfl (e41 _ _ hq1); done) | (first | omega | contradiction | (exact absurd (by assumption) hc) | (simp_all; done); done)
        refine ⟨?_, ?_⟩
        · first | (exact ⟨trivial, (by first | trivial | simp [frzOk]), ⟨(by first | (exact VW.int (wsucc (by omega)); done) | (exact VW.int rfl; done) | (exact VW.lst rfl rfl; done) | (exact VW.cptr rfl; done) | (exact VW.fn .nil; done) | (exact VW.bool rfl; done) | (exact VW.ptr rfl rfl; done) | (exact VW.sl rfl rfl rfl rfl; done) | (exact VW.no rfl; done) | (exact VW.eo rfl; done) | (exact VW.nils; done) | (exact VW.emp; done) | (exact VW.str rfl; done) | (exact VW.int (by first | (simp; done) | fail); done)), (by first | (exact VW.int (wsucc (by omega)); done) | (exact VW.int rfl; done) | (exact VW.lst rfl rfl; done) | (exact VW.cptr rfl; done) | (exact VW.fn .nil; done) | (exact VW.bool rfl; done) | (exact VW.ptr rfl rfl; done) | (exact VW.sl rfl rfl rfl rfl; done) | (exact VW.no rfl; done) | (exact VW.eo rfl; done) | (exact VW.nils; done) | (exact VW.emp; done) | (exact VW.str rfl; done) | (exact VW.int (by first | (simp; done) | fail); done)), (by first | (exact VW.int (wsucc (by omega)); done) | (exact VW.int rfl; done) | (exact VW.lst rfl rfl; done) | (exact VW.cptr rfl; done) | (exact VW.fn .nil; done) | (exact VW.bool rfl; done) | (exact VW.ptr rfl rfl; done) | (exact VW.sl rfl rfl rfl rfl; done) | (exact VW.no rfl; done) | (exact VW.eo rfl; done) | (exact VW.nils; done) | (exact VW.emp; done) | (exact VW.str rfl; done) | (exact VW.int (by first | (simp; done) | fail); done)), trivial⟩, trivial⟩; done) | (first | omega | contradiction | (exact absurd (by assumption) hc) | (simp_all; done); done)
        first | (exact nx; done) | (first | omega | contradiction | (exact absurd (by assumption) hc) | (simp_all; done); done)
      · have g1 := of_decide_eq_false h1
        try simp only [List.length_map] at g1
        refine ⟨?_, ?_⟩
        · first | (exact pcallD_iso rfl rfl (by rw [← h1]; exact e41 _ _ hq1); done) | (exact pcallD_iso rfl rfl (e41 _ _ hq1); done) | (first | omega | contradiction | (exact absurd (by assumption) hc) | (simp_all; done); done)
        refine ⟨by first | trivial | rfl | exact ⟨rfl, trivial⟩ | simp, ?_⟩
        refine ⟨?_, ?_⟩
        · first | (exact ⟨trivial, (by first | trivial | simp [frzOk]), ⟨(by first | (exact VW.int (wsucc (by omega)); done) | (exact VW.int rfl; done) | (exact VW.lst rfl rfl; done) | (exact VW.cptr rfl; done) | (exact VW.fn .nil; done) | (exact VW.bool rfl; done) | (exact VW.ptr rfl rfl; done) | (exact VW.sl rfl rfl rfl rfl; done) | (exact VW.no rfl; done) | (exact VW.eo rfl; done) | (exact VW.nils; done) | (exact VW.emp; done) | (exact VW.str rfl; done) | (exact VW.int (by first | (simp; done) | fail); done)), trivial⟩, trivial⟩; done) | (first | omega | contradiction | (exact absurd (by assumption) hc) | (simp_all; done); done)
        first | (exact ⟨trivial, rfl⟩; done) | (exact ⟨rfl, rfl⟩; done) | (trivial; done) | (rfl; done) | (first | omega | contradiction | (exact absurd (by assumption) hc) | (simp_all; done); done)
    · have g0 := of_decide_eq_false h0
      try simp only [List.length_map] at g0
      refine ⟨by first | trivial | rfl | exact ⟨rfl, trivial⟩ | simp, ?_⟩
      refine ⟨?_, ?_⟩
      · first | (exact ⟨trivial, (by first | trivial | simp [frzOk]), ⟨(by first | (exact VW.int (wsucc (by omega)); done) | (exact VW.int rfl; done) | (exact VW.lst rfl rfl; done) | (exact VW.cptr rfl; done) | (exact VW.fn .nil; done) | (exact VW.bool rfl; done) | (exact VW.ptr rfl rfl; done) | (exact VW.sl rfl rfl rfl rfl; done) | (exact VW.no rfl; done) | (exact VW.eo rfl; done) | (exact VW.nils; done) | (exact VW.emp; done) | (exact VW.str rfl; done) | (exact VW.int (by first | (simp; done) | fail); done)), (by first | (exact VW.int (wsucc (by omega)); done) | (exact VW.int rfl; done) | (exact VW.lst rfl rfl; done) | (exact VW.cptr rfl; done) | (exact VW.fn .nil; done) | (exact VW.bool rfl; done) | (exact VW.ptr rfl rfl; done) | (exact VW.sl rfl rfl rfl rfl; done) | (exact VW.no rfl; done) | (exact VW.eo rfl; done) | (exact VW.nils; done) | (exact VW.emp; done) | (exact VW.str rfl; done) | (exact VW.int (by first | (simp; done) | fail); done)), trivial⟩, trivial⟩; done) | (first | omega | contradiction | (exact absurd (by assumption) hc) | (simp_all; done); done)
      first | (exact ⟨trivial, rfl⟩; done) | (exact ⟨rfl, rfl⟩; done) | (trivial; done) | (rfl; done) | (first | omega | contradiction | (exact absurd (by assumption) hc) | (simp_all; done); done)
  · refine round_ok env.mixed hC (by kernel_rfl) (r17s iso shr a b i) ?_
    simp only [Holds, Pv.Next]
    have hsz := hs.s
    rw [BB_eq] at hsz
    have hq1 := getD_le hs.ss i
    try simp only [decide_eq_true_eq, decide_eq_false_iff_not] at hc
    refine ⟨fun h0 => ?_, fun h0 => ?_⟩
    · have g0 := of_decide_eq_true h0
      try simp only [List.length_map] at g0
      refine ⟨?_, ?_⟩
      · first | (exact px26 (by omega); done) | (exact px27 (by omega); done) | (exact px28 (by omega); done) | (first | omega | contradiction | (exact absurd (by assumption) hc) | (simp_all; done); done)
      refine ⟨?_, ?_⟩
      · first | (exact px26 (by omega); done) | (exact px27 (by omega); done) | (exact px28 (by omega); done) | (first | omega | contradiction | (exact absurd (by assumption) hc) | (simp_all; done); done)
      refine ⟨fun h1 => ?_, fun h1 => ?_⟩
      · have g1 := of_decide_eq_true h1
        try simp only [List.length_map] at g1
        refine ⟨?_, ?_⟩
        · first | (exact pcallD_iso rfl rfl (by rw [← h1]; exact e41 _ _ hq1); done) | (exact pcallD_iso rfl rfl (e41 _ _ hq1); done) | (first | omega | contradiction | (exact absurd (by assumption) hc) | (simp_all; done); done)
        refine ⟨?_, ?_⟩
        · first | (exact ⟨trivial, (by first | trivial | simp [frzOk]), ⟨(by first | (exact VW.int (wsucc (by omega)); done) | (exact VW.int rfl; done) | (exact VW.lst rfl rfl; done) | (exact VW.cptr rfl; done) | (exact VW.fn .nil; done) | (exact VW.bool rfl; done) | (exact VW.ptr rfl rfl; done) | (exact VW.sl rfl rfl rfl rfl; done) | (exact VW.no rfl; done) | (exact VW.eo rfl; done) | (exact VW.nils; done) | (exact VW.emp; done) | (exact VW.str rfl; done) | (exact VW.int (by first | (simp; done) | fail); done)), (by first | (exact VW.int (wsucc (by omega)); done) | (exact VW.int rfl; done) | (exact VW.lst rfl rfl; done) | (exact VW.cptr rfl; done) | (exact VW.fn .nil; done) | (exact VW.bool rfl; done) | (exact VW.ptr rfl rfl; done) | (exact VW.sl rfl rfl rfl rfl; done) | (exact VW.no rfl; done) | (exact VW.eo rfl; done) | (exact VW.nils; done) | (exact VW.emp; done) | (exact VW.str rfl; done) | (exact VW.int (by first | (simp; done) | fail); done)), (by first | (exact VW.int (wsucc (by omega)); done) | (exact VW.int rfl; done) | (exact VW.lst rfl rfl; done) | (exact VW.cptr rfl; done) | (exact VW.fn .nil; done) | (exact VW.bool rfl; done) | (exact VW.ptr rfl rfl; done) | (exact VW.sl rfl rfl rfl rfl; done) | (exact VW.no rfl; done) | (exact VW.eo rfl; done) | (exact VW.nils; done) | (exact VW.emp; done) | (exact VW.str rfl; done) | (exact VW.int (by first | (simp; done) | fail); done)), trivial⟩, trivial⟩; done) | (first | omega | contradiction | (exact absurd (by assumption) hc) | (simp_all; done); done)
        first | (exact nx; done) | (first | omega | contradiction | (exact absurd (by assumption) hc) | (simp_all; done); done)
      · have g1 := of_decide_eq_false h1
        try simp only [List.length_map] at g1
        refine ⟨?_, ?_⟩
        · first | (exact pcallD_iso rfl rfl (by rw [← h1]; exact e41 _ _ hq1); done) | (exact pcallD_iso rfl rfl (e41 _ _ hq1); done) | (first | omega | contradiction | (exact absurd (by assumption) hc) | (simp_all; done); done)
        refine ⟨by first | trivial | rfl | exact ⟨rfl, trivial⟩ | simp, ?_⟩
        refine ⟨?_, ?_⟩
        · first | (exact ⟨trivial, (by first | trivial | simp [frzOk]), ⟨(by first | (exact VW.int (wsucc (by omega)); done) | (exact VW.int rfl; done) | (exact VW.lst rfl rfl; done) | (exact VW.cptr rfl; done) | (exact VW.fn .nil; done) | (exact VW.bool rfl; done) | (exact VW.ptr rfl rfl; done) | (exact VW.sl rfl rfl rfl rfl; done) | (exact VW.no rfl; done) | (exact VW.eo rfl; done) | (exact VW.nils; done) | (exact VW.emp; done) | (exact VW.str rfl; done) | (exact VW.int (by first | (simp; done) | fail); done)), trivial⟩, trivial⟩; done) | (first | omega | contradiction | (exact absurd (by assumption) hc) | (simp_all; done); done)
        first | (exact ⟨trivial, rfl⟩; done) | (exact ⟨rfl, rfl⟩; done) | (trivial; done) | (rfl; done) | (first | omega | contradiction | (exact absurd (by assumption) hc) | (simp_all; done); done)
    · have g0 := of_decide_eq_false h0
      try simp only [List.length_map] at g0
      refine ⟨by first | trivial | rfl | exact ⟨rfl, trivial⟩ | simp, ?_⟩
      refine ⟨?_, ?_⟩
      · first | (exact ⟨trivial, (by first | trivial | simp [frzOk]), ⟨(by first | (exact VW.int (wsucc (by omega)); done) | (exact VW.int rfl; done) | (exact VW.lst rfl rfl; done) | (exact VW.cptr rfl; done) | (exact VW.fn .nil; done) | (exact VW.bool rfl; done) | (exact VW.ptr rfl rfl; done) | (exact VW.sl rfl rfl rfl rfl; done) | (exact VW.no rfl; done) | (exact VW.eo rfl; done) | (exact VW.nils; done) | (exact VW.emp; done) | (exact VW.str rfl; done) | (exact VW.int (by first | (simp; done) | fail); done)), (by first | (exact VW.int (wsucc (by omega)); done) | (exact VW.int rfl; done) | (exact VW.lst rfl rfl; done) | (exact VW.cptr rfl; done) | (exact VW.fn .nil; done) | (exact VW.bool rfl; done) | (exact VW.ptr rfl rfl; done) | (exact VW.sl rfl rfl rfl rfl; done) | (exact VW.no rfl; done) | (exact VW.eo rfl; done) | (exact VW.nils; done) | (exact VW.emp; done) | (exact VW.str rfl; done) | (exact VW.int (by first | (simp; done) | fail); done)), trivial⟩, trivial⟩; done) | (first | omega | contradiction | (exact absurd (by assumption) hc) | (simp_all; done); done)
      first | (exact ⟨trivial, rfl⟩; done) | (exact ⟨rfl, rfl⟩; done) | (trivial; done) | (rfl; done) | (first | omega | contradiction | (exact absurd (by assumption) hc) | (simp_all; done); done)
  · refine round_ok env.mixed hC (by kernel_rfl) (r17s iso shr a b (a.s.length)) ?_
    simp only [Holds, Pv.Next]
    have hsz := hs.s
    rw [BB_eq] at hsz
    have hq1 := getD_le hs.ss (a.s.length)
    refine ⟨fun h0 => ?_, fun h0 => ?_⟩
    · have g0 := of_decide_eq_true h0
      try simp only [List.length_map] at g0
      refine ⟨?_, ?_⟩
      · first | (exact px26 (by omega); done) | (exact px27 (by omega); done) | (exact px28 (by omega); done) | (first | omega | contradiction | (exact absurd (by assumption) hc) | (simp_all; done); done)
      refine ⟨?_, ?_⟩
      · first | (exact px26 (by omega); done) | (exact px27 (by omega); done) | (exact px28 (by omega); done) | (first | omega | contradiction | (exact absurd (by assumption) hc) | (simp_all; done); done)
      refine ⟨fun h1 => ?_, fun h1 => ?_⟩
      · have g1 := of_decide_eq_true h1
        try simp only [List.length_map] at g1
        refine ⟨?_, ?_⟩
        · first | (exact pcallD_iso rfl rfl (by rw [← h1]; exact e41 _ _ hq1); done) | (exact pcallD_iso rfl rfl (e41 _ _ hq1); done) | (first | omega | contradiction | (exact absurd (by assumption) hc) | (simp_all; done); done)
        refine ⟨?_, ?_⟩
        · first | (exact ⟨trivial, (by first | trivial | simp [frzOk]), ⟨(by first | (exact VW.int (wsucc (by omega)); done) | (exact VW.int rfl; done) | (exact VW.lst rfl rfl; done) | (exact VW.cptr rfl; done) | (exact VW.fn .nil; done) | (exact VW.bool rfl; done) | (exact VW.ptr rfl rfl; done) | (exact VW.sl rfl rfl rfl rfl; done) | (exact VW.no rfl; done) | (exact VW.eo rfl; done) | (exact VW.nils; done) | (exact VW.emp; done) | (exact VW.str rfl; done) | (exact VW.int (by first | (simp; done) | fail); done)), (by first | (exact VW.int (wsucc (by omega)); done) | (exact VW.int rfl; done) | (exact VW.lst rfl rfl; done) | (exact VW.cptr rfl; done) | (exact VW.fn .nil; done) | (exact VW.bool rfl; done) | (exact VW.ptr rfl rfl; done) | (exact VW.sl rfl rfl rfl rfl; done) | (exact VW.no rfl; done) | (exact VW.eo rfl; done) | (exact VW.nils; done) | (exact VW.emp; done) | (exact VW.str rfl; done) | (exact VW.int (by first | (simp; done) | fail); done)), (by first | (exact VW.int (wsucc (by omega)); done) | (exact VW.int rfl; done) | (exact VW.lst rfl rfl; done) | (exact VW.cptr rfl; done) | (exact VW.fn .nil; done) | (exact VW.bool rfl; done) | (exact VW.ptr rfl rfl; done) | (exact VW.sl rfl rfl rfl rfl; done) | (exact VW.no rfl; done) | (exact VW.eo rfl; done) | (exact VW.nils; done) | (exact VW.emp; done) | (exact VW.str rfl; done) | (exact VW.int (by first | (simp; done) | fail); done)), trivial⟩, trivial⟩; done) | (first | omega | contradiction | (exact absurd (by assumption) hc) | (simp_all; done); done)
        first | (exact nx; done) | (first | omega | contradiction | (exact absurd (by assumption) hc) | (simp_all; done); done)
      · have g1 := of_decide_eq_false h1
        try simp only [List.length_map] at g1
        refine ⟨?_, ?_⟩
        · first | (exact pcallD_iso rfl rfl (by rw [← h1]; exact e41 _ _ hq1); done) | (exact pcallD_iso rfl rfl (e41 _ _ hq1); done) | (first | omega | contradiction | (exact absurd (by assumption) hc) | (simp_all; done); done)
        refine ⟨by first | trivial | rfl | exact ⟨rfl, trivial⟩ | simp, ?_⟩
        refine ⟨?_, ?_⟩
        · first | (exact ⟨trivial, (by first | trivial | simp [frzOk]), ⟨(by first | (exact VW.int (wsucc (by omega)); done) | (exact VW.int rfl; done) | (exact VW.lst rfl rfl; done) | (exact VW.cptr rfl; done) | (exact VW.fn .nil; done) | (exact VW.bool rfl; done) | (exact VW.ptr rfl rfl; done) | (exact VW.sl rfl rfl rfl rfl; done) | (exact VW.no rfl; done) | (exact VW.eo rfl; done) | (exact VW.nils; done) | (exact VW.emp; done) | (exact VW.str rfl; done) | (exact VW.int (by first | (simp; done) | fail); done)), trivial⟩, trivial⟩; done) | (first | omega | contradiction | (exact absurd (by assumption) hc) | (simp_all; done); done)
        first | (exact ⟨trivial, rfl⟩; done) | (exact ⟨rfl, rfl⟩; done) | (trivial; done) | (rfl; done) | (first | omega | contradiction | (exact absurd (by assumption) hc) | (simp_all; done); done)
    · have g0 := of_decide_eq_false h0
      try simp only [List.length_map] at g0
      refine ⟨by first | trivial | rfl | exact ⟨rfl, trivial⟩ | simp, ?_⟩
      refine ⟨?_, ?_⟩
      · first | (exact ⟨trivial, (by first | trivial | simp [frzOk]), ⟨(by first | (exact VW.int (wsucc (by omega)); done) | (exact VW.int rfl; done) | (exact VW.lst rfl rfl; done) | (exact VW.cptr rfl; done) | (exact VW.fn .nil; done) | (exact VW.bool rfl; done) | (exact VW.ptr rfl rfl; done) | (exact VW.sl rfl rfl rfl rfl; done) | (exact VW.no rfl; done) | (exact VW.eo rfl; done) | (exact VW.nils; done) | (exact VW.emp; done) | (exact VW.str rfl; done) | (exact VW.int (by first | (simp; done) | fail); done)), (by first | (exact VW.int (wsucc (by omega)); done) | (exact VW.int rfl; done) | (exact VW.lst rfl rfl; done) | (exact VW.cptr rfl; done) | (exact VW.fn .nil; done) | (exact VW.bool rfl; done) | (exact VW.ptr rfl rfl; done) | (exact VW.sl rfl rfl rfl rfl; done) | (exact VW.no rfl; done) | (exact VW.eo rfl; done) | (exact VW.nils; done) | (exact VW.emp; done) | (exact VW.str rfl; done) | (exact VW.int (by first | (simp; done) | fail); done)), trivial⟩, trivial⟩; done) | (first | omega | contradiction | (exact absurd (by assumption) hc) | (simp_all; done); done)
      first | (exact ⟨trivial, rfl⟩; done) | (exact ⟨rfl, rfl⟩; done) | (trivial; done) | (rfl; done) | (first | omega | contradiction | (exact absurd (by assumption) hc) | (simp_all; done); done)
theorem Ac_ne {a b : Ac} (h : ((a.site == b.site) && (a.turn == b.turn)) = true) : a = b := by obtain ⟨x, y⟩ := a; obtain ⟨x', y'⟩ := b; simp at h; simp [h]
def hd17c (a : Mc) (b : Mc) (i : Nat) : PS := ⟨⟨119, [(6, .int .i64 ((i : Nat) : Int)), (3, .cptr (Mc.cs b)), (2, .cptr (Mc.cs a))]⟩, []⟩
def en17c (a : Mc) (b : Mc) : PS := ⟨⟨119, []⟩, []⟩
theorem lp17c (iso : Nat → List PV → Option PV) (shr : Nat → List PV → List Pv.Box → Option (PV × List Pv.Box)) (hC : OrcOk Tryd.prog X.G ⟨iso, shr, ownS X.sh, []⟩)  (a : Mc) (b : Mc) (hl : a.c.length = b.c.length) (hs : Sm a) : ((∀ j, j < a.c.length → decide (a.c.getD j default = b.c.getD j default) = true) → LoopOk Tryd.prog X.G 0 (lpB Tryd.f17 9) (hd17c a b 0) (.exit 2) (en17c a b)) ∧ (∀ j, j < a.c.length → decide (a.c.getD j default = b.c.getD j default) = false → (∀ k, k < j → decide (a.c.getD k default = b.c.getD k default) = true) → LoopOk Tryd.prog X.G 0 (lpB Tryd.f17 9) (hd17c a b 0) .ret ⟨⟨119, [(4, .bool false)]⟩, []⟩) := by
  refine loop_first (S := hd17c a b) (c := fun i => decide (a.c.getD i default = b.c.getD i default)) (e1 := fun i => (.ret, ⟨⟨119, [(4, .bool false)]⟩, []⟩)) (e2 := (.exit 2, en17c a b)) (fun i hi hc ep sp nx => ?_) (fun i hi hc => ?_) ?_
  · refine round_ok env.mixed hC (by kernel_rfl) (r17c iso shr a b i) ?_
    simp only [Holds, Pv.Next]
    have hsz := hs.c
    rw [BB_eq] at hsz
    try simp only [decide_eq_true_eq, decide_eq_false_iff_not] at hc
    try (have hd := congrArg Ac.site hc; have hd2 := congrArg Ac.turn hc)
    refine ⟨fun h0 => ?_, fun h0 => ?_⟩
    · have g0 := of_decide_eq_true h0
      try simp only [List.length_map] at g0
      refine ⟨?_, ?_⟩
      · first | (exact px26 (by omega); done) | (exact px27 (by omega); done) | (exact px28 (by omega); done) | (first | omega | contradiction | (exact absurd (Ac_ne (by simp_all)) hc) | (simp_all; done); done)
      refine ⟨?_, ?_⟩
      · first | (exact px26 (by omega); done) | (exact px27 (by omega); done) | (exact px28 (by omega); done) | (first | omega | contradiction | (exact absurd (Ac_ne (by simp_all)) hc) | (simp_all; done); done)
      refine ⟨fun h1 => ?_, fun h1 => ?_⟩
      · have g1 := h1
        refine ⟨by first | trivial | rfl | exact ⟨rfl, trivial⟩ | simp, ?_⟩
        refine ⟨?_, ?_⟩
        · first | (exact ⟨trivial, (by first | trivial | simp [frzOk]), ⟨(by first | (exact VW.int (wsucc (by omega)); done) | (exact VW.int rfl; done) | (exact VW.lst rfl rfl; done) | (exact VW.cptr rfl; done) | (exact VW.fn .nil; done) | (exact VW.bool rfl; done) | (exact VW.ptr rfl rfl; done) | (exact VW.sl rfl rfl rfl rfl; done) | (exact VW.no rfl; done) | (exact VW.eo rfl; done) | (exact VW.nils; done) | (exact VW.emp; done) | (exact VW.str rfl; done) | (exact VW.int (by first | (simp; done) | fail); done)), trivial⟩, trivial⟩; done) | (first | omega | contradiction | (exact absurd (Ac_ne (by simp_all)) hc) | (simp_all; done); done)
        first | (exact ⟨trivial, rfl⟩; done) | (exact ⟨rfl, rfl⟩; done) | (trivial; done) | (rfl; done) | (first | omega | contradiction | (exact absurd (Ac_ne (by simp_all)) hc) | (simp_all; done); done)
      · have g1 := h1
        refine ⟨?_, ?_⟩
        · first | (exact ⟨trivial, (by first | trivial | simp [frzOk]), ⟨(by first | (exact VW.int (wsucc (by omega)); done) | (exact VW.int rfl; done) | (exact VW.lst rfl rfl; done) | (exact VW.cptr rfl; done) | (exact VW.fn .nil; done) | (exact VW.bool rfl; done) | (exact VW.ptr rfl rfl; done) | (exact VW.sl rfl rfl rfl rfl; done) | (exact VW.no rfl; done) | (exact VW.eo rfl; done) | (exact VW.nils; done) | (exact VW.emp; done) | (exact VW.str rfl; done) | (exact VW.int (by first | (simp; done) | fail); done)), (by first | (exact VW.int (wsucc (by omega)); done) | (exact VW.int rfl; done) | (exact VW.lst rfl rfl; done) | (exact VW.cptr rfl; done) | (exact VW.fn .nil; done) | (exact VW.bool rfl; done) | (exact VW.ptr rfl rfl; done) | (exact VW.sl rfl rfl rfl rfl; done) | (exact VW.no rfl; done) | (exact VW.eo rfl; done) | (exact VW.nils; done) | (exact VW.emp; done) | (exact VW.str rfl; done) | (exact VW.int (by first | (simp; done) | fail); done)), (by first | (exact VW.int (wsucc (by omega)); done) | (exact VW.int rfl; done) | (exact VW.lst rfl rfl; done) | (exact VW.cptr rfl; done) | (exact VW.fn .nil; done) | (exact VW.bool rfl; done) | (exact VW.ptr rfl rfl; done) | (exact VW.sl rfl rfl rfl rfl; done) | (exact VW.no rfl; done) | (exact VW.eo rfl; done) | (exact VW.nils; done) | (exact VW.emp; done) | (exact VW.str rfl; done) | (exact VW.int (by first | (simp; done) | fail); done)), trivial⟩, trivial⟩; done) | (first | omega | contradiction | (exact absurd (Ac_ne (by simp_all)) hc) | (simp_all; done); done)
        first | (exact nx; done) | (first | omega | contradiction | (exact absurd (Ac_ne (by simp_all)) hc) | (simp_all; done); done)
    · have g0 := of_decide_eq_false h0
      try simp only [List.length_map] at g0
      refine ⟨by first | trivial | rfl | exact ⟨rfl, trivial⟩ | simp, ?_⟩
      refine ⟨?_, ?_⟩
      · first | (exact ⟨trivial, (by first | trivial | simp [frzOk]), trivial, trivial⟩; done) | (first | omega | contradiction | (exact absurd (Ac_ne (by simp_all)) hc) | (simp_all; done); done)
      first | (exact ⟨trivial, rfl⟩; done) | (exact ⟨rfl, rfl⟩; done) | (trivial; done) | (rfl; done) | (first | omega | contradiction | (exact absurd (Ac_ne (by simp_all)) hc) | (simp_all; done); done)
  · refine round_ok env.mixed hC (by kernel_rfl) (r17c iso shr a b i) ?_
    simp only [Holds, Pv.Next]
    have hsz := hs.c
    rw [BB_eq] at hsz
    try simp only [decide_eq_true_eq, decide_eq_false_iff_not] at hc
    try (have hd := congrArg Ac.site hc; have hd2 := congrArg Ac.turn hc)
    refine ⟨fun h0 => ?_, fun h0 => ?_⟩
    · have g0 := of_decide_eq_true h0
      try simp only [List.length_map] at g0
      refine ⟨?_, ?_⟩
      · first | (exact px26 (by omega); done) | (exact px27 (by omega); done) | (exact px28 (by omega); done) | (first | omega | contradiction | (exact absurd (Ac_ne (by simp_all)) hc) | (simp_all; done); done)
      refine ⟨?_, ?_⟩
      · first | (exact px26 (by omega); done) | (exact px27 (by omega); done) | (exact px28 (by omega); done) | (first | omega | contradiction | (exact absurd (Ac_ne (by simp_all)) hc) | (simp_all; done); done)
      refine ⟨fun h1 => ?_, fun h1 => ?_⟩
      · have g1 := h1
        refine ⟨by first | trivial | rfl | exact ⟨rfl, trivial⟩ | simp, ?_⟩
        refine ⟨?_, ?_⟩
        · first | (exact ⟨trivial, (by first | trivial | simp [frzOk]), ⟨(by first | (exact VW.int (wsucc (by omega)); done) | (exact VW.int rfl; done) | (exact VW.lst rfl rfl; done) | (exact VW.cptr rfl; done) | (exact VW.fn .nil; done) | (exact VW.bool rfl; done) | (exact VW.ptr rfl rfl; done) | (exact VW.sl rfl rfl rfl rfl; done) | (exact VW.no rfl; done) | (exact VW.eo rfl; done) | (exact VW.nils; done) | (exact VW.emp; done) | (exact VW.str rfl; done) | (exact VW.int (by first | (simp; done) | fail); done)), trivial⟩, trivial⟩; done) | (first | omega | contradiction | (exact absurd (Ac_ne (by simp_all)) hc) | (simp_all; done); done)
        first | (exact ⟨trivial, rfl⟩; done) | (exact ⟨rfl, rfl⟩; done) | (trivial; done) | (rfl; done) | (first | omega | contradiction | (exact absurd (Ac_ne (by simp_all)) hc) | (simp_all; done); done)
      · have g1 := h1
        refine ⟨?_, ?_⟩
        · first | (exact ⟨trivial, (by first | trivial | simp [frzOk]), ⟨(by first | (exact VW.int (wsucc (by omega)); done) | (exact VW.int rfl; done) | (exact VW.lst rfl rfl; done) | (exact VW.cptr rfl; done) | (exact VW.fn .nil; done) | (exact VW.bool rfl; done) | (exact VW.ptr rfl rfl; done) | (exact VW.sl rfl rfl rfl rfl; done) | (exact VW.no rfl; done) | (exact VW.eo rfl; done) | (exact VW.nils; done) | (exact VW.emp; done) | (exact VW.str rfl; done) | (exact VW.int (by first | (simp; done) | fail); done)), (by first | (exact VW.int (wsucc (by omega)); done) | (exact VW.int rfl; done) | (exact VW.lst rfl rfl; done) | (exact VW.cptr rfl; done) | (exact VW.fn .nil; done) | (exact VW.bool rfl; done) | (exact VW.ptr rfl rfl; done) | (exact VW.sl rfl rfl rfl rfl; done) | (exact VW.no rfl; done) | (exact VW.eo rfl; done) | (exact VW.nils; done) | (exact VW.emp; done) | (exact VW.str rfl; done) | (exact VW.int (by first | (simp; done) | fail); done)), (by first | (exact VW.int (wsucc (by omega)); done) | (exact VW.int rfl; done) | (exact VW.lst rfl rfl; done) | (exact VW.cptr rfl; done) | (exact VW.fn .nil; done) | (exact VW.bool rfl; done) | (exact VW.ptr rfl rfl; done) | (exact VW.sl rfl rfl rfl rfl; done) | (exact VW.no rfl; done) | (exact VW.eo rfl; done) | (exact VW.nils; done) | (exact VW.emp; done) | (exact VW.str rfl; done) | (exact VW.int (by first | (simp; done) | fail); done)), trivial⟩, trivial⟩; done) | (first | omega | contradiction | (exact absurd (Ac_ne (by simp_all)) hc) | (simp_all; done); done)
        first | (exact nx; done) | (first | omega | contradiction | (exact absurd (Ac_ne (by simp_all)) hc) | (simp_all; done); done)
    · have g0 := of_decide_eq_false h0
      try simp only [List.length_map] at g0
      refine ⟨by first | trivial | rfl | exact ⟨rfl, trivial⟩ | simp, ?_⟩
      refine ⟨?_, ?_⟩
      · first | (exact ⟨trivial, (by first | trivial | simp [frzOk]), trivial, trivial⟩; done) | (first | omega | contradiction | (exact absurd (Ac_ne (by simp_all)) hc) | (simp_all; done); done)
      first | (exact ⟨trivial, rfl⟩; done) | (exact ⟨rfl, rfl⟩; done) | (trivial; done) | (rfl; done) | (first | omega | contradiction | (exact absurd (Ac_ne (by simp_all)) hc) | (simp_all; done); done)
  · refine round_ok env.mixed hC (by kernel_rfl) (r17c iso shr a b (a.c.length)) ?_
    simp only [Holds, Pv.Next]
    have hsz := hs.c
    rw [BB_eq] at hsz
    refine ⟨fun h0 => ?_, fun h0 => ?_⟩
    · have g0 := of_decide_eq_true h0
      try simp only [List.length_map] at g0
      refine ⟨?_, ?_⟩
      · first | (exact px26 (by omega); done) | (exact px27 (by omega); done) | (exact px28 (by omega); done) | (first | omega | contradiction | (exact absurd (Ac_ne (by simp_all)) hc) | (simp_all; done); done)
      refine ⟨?_, ?_⟩
      · first | (exact px26 (by omega); done) | (exact px27 (by omega); done) | (exact px28 (by omega); done) | (first | omega | contradiction | (exact absurd (Ac_ne (by simp_all)) hc) | (simp_all; done); done)
      refine ⟨fun h1 => ?_, fun h1 => ?_⟩
      · have g1 := h1
        refine ⟨by first | trivial | rfl | exact ⟨rfl, trivial⟩ | simp, ?_⟩
        refine ⟨?_, ?_⟩
        · first | (exact ⟨trivial, (by first | trivial | simp [frzOk]), ⟨(by first | (exact VW.int (wsucc (by omega)); done) | (exact VW.int rfl; done) | (exact VW.lst rfl rfl; done) | (exact VW.cptr rfl; done) | (exact VW.fn .nil; done) | (exact VW.bool rfl; done) | (exact VW.ptr rfl rfl; done) | (exact VW.sl rfl rfl rfl rfl; done) | (exact VW.no rfl; done) | (exact VW.eo rfl; done) | (exact VW.nils; done) | (exact VW.emp; done) | (exact VW.str rfl; done) | (exact VW.int (by first | (simp; done) | fail); done)), trivial⟩, trivial⟩; done) | (first | omega | contradiction | (exact absurd (Ac_ne (by simp_all)) hc) | (simp_all; done); done)
        first | (exact ⟨trivial, rfl⟩; done) | (exact ⟨rfl, rfl⟩; done) | (trivial; done) | (rfl; done) | (first | omega | contradiction | (exact absurd (Ac_ne (by simp_all)) hc) | (simp_all; done); done)
      · have g1 := h1
        refine ⟨?_, ?_⟩
        · first | (exact ⟨trivial, (by first | trivial | simp [frzOk]), ⟨(by first | (exact VW.int (wsucc (by omega)); done) | (exact VW.int rfl; done) | (exact VW.lst rfl rfl; done) | (exact VW.cptr rfl; done) | (exact VW.fn .nil; done) | (exact VW.bool rfl; done) | (exact VW.ptr rfl rfl; done) | (exact VW.sl rfl rfl rfl rfl; done) | (exact VW.no rfl; done) | (exact VW.eo rfl; done) | (exact VW.nils; done) | (exact VW.emp; done) | (exact VW.str rfl; done) | (exact VW.int (by first | (simp; done) | fail); done)), (by first | (exact VW.int (wsucc (by omega)); done) | (exact VW.int rfl; done) | (exact VW.lst rfl rfl; done) | (exact VW.cptr rfl; done) | (exact VW.fn .nil; done) | (exact VW.bool rfl; done) | (exact VW.ptr rfl rfl; done) | (exact VW.sl rfl rfl rfl rfl; done) | (exact VW.no rfl; done) | (exact VW.eo rfl; done) | (exact VW.nils; done) | (exact VW.emp; done) | (exact VW.str rfl; done) | (exact VW.int (by first | (simp; done) | fail); done)), (by first | (exact VW.int (wsucc (by omega)); done) | (exact VW.int rfl; done) | (exact VW.lst rfl rfl; done) | (exact VW.cptr rfl; done) | (exact VW.fn .nil; done) | (exact VW.bool rfl; done) | (exact VW.ptr rfl rfl; done) | (exact VW.sl rfl rfl rfl rfl; done) | (exact VW.no rfl; done) | (exact VW.eo rfl; done) | (exact VW.nils; done) | (exact VW.emp; done) | (exact VW.str rfl; done) | (exact VW.int (by first | (simp; done) | fail); done)), trivial⟩, trivial⟩; done) | (first | omega | contradiction | (exact absurd (Ac_ne (by simp_all)) hc) | (simp_all; done); done)
        first | (exact nx; done) | (first | omega | contradiction | (exact absurd (Ac_ne (by simp_all)) hc) | (simp_all; done); done)
    · have g0 := of_decide_eq_false h0
      try simp only [List.length_map] at g0
      refine ⟨by first | trivial | rfl | exact ⟨rfl, trivial⟩ | simp, ?_⟩
      refine ⟨?_, ?_⟩
      · first | (exact ⟨trivial, (by first | trivial | simp [frzOk]), trivial, trivial⟩; done) | (first | omega | contradiction | (exact absurd (Ac_ne (by simp_all)) hc) | (simp_all; done); done)
      first | (exact ⟨trivial, rfl⟩; done) | (exact ⟨rfl, rfl⟩; done) | (trivial; done) | (rfl; done) | (first | omega | contradiction | (exact absurd (Ac_ne (by simp_all)) hc) | (simp_all; done); done)
theorem R16_eq {a b : R16} (h : ((a.x0 == b.x0) && ((a.x1 == b.x1) && ((a.x2 == b.x2) && ((a.x3 == b.x3) && ((a.x4 == b.x4) && ((a.x5 == b.x5) && ((a.x6 == b.x6) && ((a.x7 == b.x7) && ((a.x8 == b.x8) && ((a.x9 == b.x9) && ((a.x10 == b.x10) && ((a.x11 == b.x11) && ((a.x12 == b.x12) && ((a.x13 == b.x13) && ((a.x14 == b.x14) && (a.x15 == b.x15)))))))))))))))) = true) : a = b := by
  obtain ⟨x0, x1, x2, x3, x4, x5, x6, x7, x8, x9, x10, x11, x12, x13, x14, x15⟩ := a
  obtain ⟨y0, y1, y2, y3, y4, y5, y6, y7, y8, y9, y10, y11, y12, y13, y14, y15⟩ := b
  simp only [Bool.and_eq_true, beq_iff_eq] at h
  simp [h]
theorem Mc_ext {a b : Mc} (h0 : a.pc = b.pc) (h1 : a.dir = b.dir) (h2 : a.r = b.r) (h3 : a.m = b.m) (h4 : a.s = b.s) (h5 : a.c = b.c) (h6 : a.fp = b.fp) (h7 : a.sb = b.sb) (h8 : a.i = b.i) (h9 : a.o = b.o) : a = b := by
  obtain ⟨p, d, r, m, s, c, f, sb, i, o⟩ := a
  obtain ⟨p', d', r', m', s', c', f', sb', i', o'⟩ := b
  simp only [Mc.mk.injEq]; exact ⟨h0, h1, h2, h3, h4, h5, h6, h7, h8, h9⟩
theorem ok17 (a b : Mc) (hs : Sm a) : Ok Tryd.prog X.G 17 [a.pv, b.pv] (.bool (decide (a = b))) := by
  obtain ⟨iso, shr, hC, e41⟩ := lf1
  by_cases he : ∀ j, j < a.s.length → decide (a.s.getD j default = b.s.getD j default) = true
  · by_cases hc' : ∀ j, j < a.c.length → decide (a.c.getD j default = b.c.getD j default) = true
    · refine wok env hC fd17 (t17a iso shr a b) ?_ hhS
      simp only [Holds]
      refine ⟨fun h0 => ?_, fun h0 => ?_⟩
      · have g0 := bne_iff_ne.1 h0
        try simp only [List.length_map] at g0
        first | (exact fin_b (Eq.symm (decide_eq_true (Mc_ext (by omega) (by omega) (R16_eq (by first | assumption | (simp_all; done) | fail)) (by assumption) (eqL' default (by omega) he) (eqL' default (by omega) hc') (by omega) (by omega) (by assumption) (by assumption)))); done) | (exact fin_b (Eq.symm (decide_eq_false (fun h => by subst h; first | contradiction | omega | (simp_all; done) | fail))); done) | (first | omega | contradiction | (simp_all; done); done)
      · have g0 := bne_eq_false_iff_eq.1 h0
        try simp only [List.length_map] at g0
        refine ⟨fun h1 => ?_, fun h1 => ?_⟩
        · have g1 := bne_iff_ne.1 h1
          try simp only [List.length_map] at g1
          first | (exact fin_b (Eq.symm (decide_eq_true (Mc_ext (by omega) (by omega) (R16_eq (by first | assumption | (simp_all; done) | fail)) (by assumption) (eqL' default (by omega) he) (eqL' default (by omega) hc') (by omega) (by omega) (by assumption) (by assumption)))); done) | (exact fin_b (Eq.symm (decide_eq_false (fun h => by subst h; first | contradiction | omega | (simp_all; done) | fail))); done) | (first | omega | contradiction | (simp_all; done); done)
        · have g1 := bne_eq_false_iff_eq.1 h1
          try simp only [List.length_map] at g1
          refine ⟨fun h2 => ?_, fun h2 => ?_⟩
          · have g2 := h2
            first | (exact fin_b (Eq.symm (decide_eq_true (Mc_ext (by omega) (by omega) (R16_eq (by first | assumption | (simp_all; done) | fail)) (by assumption) (eqL' default (by omega) he) (eqL' default (by omega) hc') (by omega) (by omega) (by assumption) (by assumption)))); done) | (exact fin_b (Eq.symm (decide_eq_false (fun h => by subst h; first | contradiction | omega | (simp_all; done) | fail))); done) | (first | omega | contradiction | (simp_all; done); done)
          · have g2 := h2
            refine ⟨fun h3 => ?_, fun h3 => ?_⟩
            · have g3 := bne_iff_ne.1 h3
              try simp only [List.length_map] at g3
              first | (exact fin_b (Eq.symm (decide_eq_true (Mc_ext (by omega) (by omega) (R16_eq (by first | assumption | (simp_all; done) | fail)) (by assumption) (eqL' default (by omega) he) (eqL' default (by omega) hc') (by omega) (by omega) (by assumption) (by assumption)))); done) | (exact fin_b (Eq.symm (decide_eq_false (fun h => by subst h; first | contradiction | omega | (simp_all; done) | fail))); done) | (first | omega | contradiction | (simp_all; done); done)
            · have g3 := bne_eq_false_iff_eq.1 h3
              try simp only [List.length_map] at g3
              refine ⟨fun h4 => ?_, fun h4 => ?_⟩
              · have g4 := bne_iff_ne.1 h4
                try simp only [List.length_map] at g4
                first | (exact fin_b (Eq.symm (decide_eq_true (Mc_ext (by omega) (by omega) (R16_eq (by first | assumption | (simp_all; done) | fail)) (by assumption) (eqL' default (by omega) he) (eqL' default (by omega) hc') (by omega) (by omega) (by assumption) (by assumption)))); done) | (exact fin_b (Eq.symm (decide_eq_false (fun h => by subst h; first | contradiction | omega | (simp_all; done) | fail))); done) | (first | omega | contradiction | (simp_all; done); done)
              · have g4 := bne_eq_false_iff_eq.1 h4
                try simp only [List.length_map] at g4
                refine ⟨fun h5 => ?_, fun h5 => ?_⟩
                · have g5 := of_decide_eq_true h5
                  try simp only [List.length_map] at g5
                  refine ⟨?_, ?_⟩
                  · first | (exact pcallv_iso rfl rfl (by rw [← h5]; exact e41 _ _ hs.m); done) | (exact pcallv_iso rfl rfl (e41 _ _ hs.m); done) | (exact pcallv_iso rfl rfl (by rw [← h5]; exact e41 _ _ hs.i); done) | (exact pcallv_iso rfl rfl (e41 _ _ hs.i); done) | (exact pcallv_iso rfl rfl (by rw [← h5]; exact e41 _ _ hs.o); done) | (exact pcallv_iso rfl rfl (e41 _ _ hs.o); done) | (first | omega | contradiction | (simp_all; done); done)
                  refine ⟨fun h6 => ?_, fun h6 => ?_⟩
                  · have g6 := of_decide_eq_true h6
                    try simp only [List.length_map] at g6
                    refine ⟨?_, ?_⟩
                    · first | (exact pcallv_iso rfl rfl (by rw [← h6]; exact e41 _ _ hs.m); done) | (exact pcallv_iso rfl rfl (e41 _ _ hs.m); done) | (exact pcallv_iso rfl rfl (by rw [← h6]; exact e41 _ _ hs.i); done) | (exact pcallv_iso rfl rfl (e41 _ _ hs.i); done) | (exact pcallv_iso rfl rfl (by rw [← h6]; exact e41 _ _ hs.o); done) | (exact pcallv_iso rfl rfl (e41 _ _ hs.o); done) | (first | omega | contradiction | (simp_all; done); done)
                    refine ⟨fun h7 => ?_, fun h7 => ?_⟩
                    · have g7 := of_decide_eq_true h7
                      try simp only [List.length_map] at g7
                      refine ⟨?_, ?_⟩
                      · first | (exact pcallv_iso rfl rfl (by rw [← h7]; exact e41 _ _ hs.m); done) | (exact pcallv_iso rfl rfl (e41 _ _ hs.m); done) | (exact pcallv_iso rfl rfl (by rw [← h7]; exact e41 _ _ hs.i); done) | (exact pcallv_iso rfl rfl (e41 _ _ hs.i); done) | (exact pcallv_iso rfl rfl (by rw [← h7]; exact e41 _ _ hs.o); done) | (exact pcallv_iso rfl rfl (e41 _ _ hs.o); done) | (first | omega | contradiction | (simp_all; done); done)
                      refine ⟨fun h8 => ?_, fun h8 => ?_⟩
                      · have g8 := bne_iff_ne.1 h8
                        try simp only [List.length_map] at g8
                        first | (exact fin_b (Eq.symm (decide_eq_true (Mc_ext (by omega) (by omega) (R16_eq (by first | assumption | (simp_all; done) | fail)) (by assumption) (eqL' default (by omega) he) (eqL' default (by omega) hc') (by omega) (by omega) (by assumption) (by assumption)))); done) | (exact fin_b (Eq.symm (decide_eq_false (fun h => by subst h; first | contradiction | omega | (simp_all; done) | fail))); done) | (first | omega | contradiction | (simp_all; done); done)
                      · have g8 := bne_eq_false_iff_eq.1 h8
                        try simp only [List.length_map] at g8
                        refine ⟨fun h9 => ?_, fun h9 => ?_⟩
                        · have g9 := bne_iff_ne.1 h9
                          try simp only [List.length_map] at g9
                          first | (exact fin_b (Eq.symm (decide_eq_true (Mc_ext (by omega) (by omega) (R16_eq (by first | assumption | (simp_all; done) | fail)) (by assumption) (eqL' default (by omega) he) (eqL' default (by omega) hc') (by omega) (by omega) (by assumption) (by assumption)))); done) | (exact fin_b (Eq.symm (decide_eq_false (fun h => by subst h; first | contradiction | omega | (simp_all; done) | fail))); done) | (first | omega | contradiction | (simp_all; done); done)
                        · have g9 := bne_eq_false_iff_eq.1 h9
                          try simp only [List.length_map] at g9
                          refine ⟨?_, ?_⟩
                          · first | (exact ⟨trivial, (by first | trivial | simp [frzOk]), ⟨(by first | (exact VW.int (wsucc (by omega)); done) | (exact VW.int rfl; done) | (exact VW.lst rfl rfl; done) | (exact VW.cptr rfl; done) | (exact VW.fn .nil; done) | (exact VW.bool rfl; done) | (exact VW.ptr rfl rfl; done) | (exact VW.sl rfl rfl rfl rfl; done) | (exact VW.no rfl; done) | (exact VW.eo rfl; done) | (exact VW.nils; done) | (exact VW.emp; done) | (exact VW.str rfl; done) | (exact VW.int (by first | (simp; done) | fail); done)), (by first | (exact VW.int (wsucc (by omega)); done) | (exact VW.int rfl; done) | (exact VW.lst rfl rfl; done) | (exact VW.cptr rfl; done) | (exact VW.fn .nil; done) | (exact VW.bool rfl; done) | (exact VW.ptr rfl rfl; done) | (exact VW.sl rfl rfl rfl rfl; done) | (exact VW.no rfl; done) | (exact VW.eo rfl; done) | (exact VW.nils; done) | (exact VW.emp; done) | (exact VW.str rfl; done) | (exact VW.int (by first | (simp; done) | fail); done)), (by first | (exact VW.int (wsucc (by omega)); done) | (exact VW.int rfl; done) | (exact VW.lst rfl rfl; done) | (exact VW.cptr rfl; done) | (exact VW.fn .nil; done) | (exact VW.bool rfl; done) | (exact VW.ptr rfl rfl; done) | (exact VW.sl rfl rfl rfl rfl; done) | (exact VW.no rfl; done) | (exact VW.eo rfl; done) | (exact VW.nils; done) | (exact VW.emp; done) | (exact VW.str rfl; done) | (exact VW.int (by first | (simp; done) | fail); done)), trivial⟩, trivial⟩; done) | (first | omega | contradiction | (simp_all; done); done)
                          refine ⟨?_, ?_⟩
                          · first | (exact (lp17s iso shr hC e41 a b (by omega) hs).1 he; done) | (first | omega | contradiction | (simp_all; done); done)
                          refine ⟨?_, ?_⟩
                          · first | (exact ⟨trivial, (by first | trivial | simp [frzOk]), ⟨(by first | (exact VW.int (wsucc (by omega)); done) | (exact VW.int rfl; done) | (exact VW.lst rfl rfl; done) | (exact VW.cptr rfl; done) | (exact VW.fn .nil; done) | (exact VW.bool rfl; done) | (exact VW.ptr rfl rfl; done) | (exact VW.sl rfl rfl rfl rfl; done) | (exact VW.no rfl; done) | (exact VW.eo rfl; done) | (exact VW.nils; done) | (exact VW.emp; done) | (exact VW.str rfl; done) | (exact VW.int (by first | (simp; done) | fail); done)), (by first | (exact VW.int (wsucc (by omega)); done) | (exact VW.int rfl; done) | (exact VW.lst rfl rfl; done) | (exact VW.cptr rfl; done) | (exact VW.fn .nil; done) | (exact VW.bool rfl; done) | (exact VW.ptr rfl rfl; done) | (exact VW.sl rfl rfl rfl rfl; done) | (exact VW.no rfl; done) | (exact VW.eo rfl; done) | (exact VW.nils; done) | (exact VW.emp; done) | (exact VW.str rfl; done) | (exact VW.int (by first | (simp; done) | fail); done)), (by first | (exact VW.int (wsucc (by omega)); done) | (exact VW.int rfl; done) | (exact VW.lst rfl rfl; done) | (exact VW.cptr rfl; done) | (exact VW.fn .nil; done) | (exact VW.bool rfl; done) | (exact VW.ptr rfl rfl; done) | (exact VW.sl rfl rfl rfl rfl; done) | (exact VW.no rfl; done) | (exact VW.eo rfl; done) | (exact VW.nils; done) | (exact VW.emp; done) | (exact VW.str rfl; done) | (exact VW.int (by first | (simp; done) | fail); done)), trivial⟩, trivial⟩; done) | (first | omega | contradiction | (simp_all; done); done)
                          refine ⟨?_, ?_⟩
                          · first | (exact (lp17c iso shr hC a b (by omega) hs).1 hc'; done) | (first | omega | contradiction | (simp_all; done); done)
                          first | (exact fin_b (Eq.symm (decide_eq_true (Mc_ext (by omega) (by omega) (R16_eq (by first | assumption | (simp_all; done) | fail)) (by assumption) (eqL' default (by omega) he) (eqL' default (by omega) hc') (by omega) (by omega) (by assumption) (by assumption)))); done) | (exact fin_b (Eq.symm (decide_eq_false (fun h => by subst h; first | contradiction | omega | (simp_all; done) | fail))); done) | (first | omega | contradiction | (simp_all; done); done)
                    · have g7 := of_decide_eq_false h7
                      try simp only [List.length_map] at g7
                      refine ⟨?_, ?_⟩
                      · first | (exact pcallv_iso rfl rfl (by rw [← h7]; exact e41 _ _ hs.m); done) | (exact pcallv_iso rfl rfl (e41 _ _ hs.m); done) | (exact pcallv_iso rfl rfl (by rw [← h7]; exact e41 _ _ hs.i); done) | (exact pcallv_iso rfl rfl (e41 _ _ hs.i); done) | (exact pcallv_iso rfl rfl (by rw [← h7]; exact e41 _ _ hs.o); done) | (exact pcallv_iso rfl rfl (e41 _ _ hs.o); done) | (first | omega | contradiction | (simp_all; done); done)
                      first | (exact fin_b (Eq.symm (decide_eq_true (Mc_ext (by omega) (by omega) (R16_eq (by first | assumption | (simp_all; done) | fail)) (by assumption) (eqL' default (by omega) he) (eqL' default (by omega) hc') (by omega) (by omega) (by assumption) (by assumption)))); done) | (exact fin_b (Eq.symm (decide_eq_false (fun h => by subst h; first | contradiction | omega | (simp_all; done) | fail))); done) | (first | omega | contradiction | (simp_all; done); done)
                  · have g6 := of_decide_eq_false h6
                    try simp only [List.length_map] at g6
                    refine ⟨?_, ?_⟩
                    · first | (exact pcallv_iso rfl rfl (by rw [← h6]; exact e41 _ _ hs.m); done) | (exact pcallv_iso rfl rfl (e41 _ _ hs.m); done) | (exact pcallv_iso rfl rfl (by rw [← h6]; exact e41 _ _ hs.i); done) | (exact pcallv_iso rfl rfl (e41 _ _ hs.i); done) | (exact pcallv_iso rfl rfl (by rw [← h6]; exact e41 _ _ hs.o); done) | (exact pcallv_iso rfl rfl (e41 _ _ hs.o); done) | (first | omega | contradiction | (simp_all; done); done)
                    first | (exact fin_b (Eq.symm (decide_eq_true (Mc_ext (by omega) (by omega) (R16_eq (by first | assumption | (simp_all; done) | fail)) (by assumption) (eqL' default (by omega) he) (eqL' default (by omega) hc') (by omega) (by omega) (by assumption) (by assumption)))); done) | (exact fin_b (Eq.symm (decide_eq_false (fun h => by subst h; first | contradiction | omega | (simp_all; done) | fail))); done) | (first | omega | contradiction | (simp_all; done); done)
                · have g5 := of_decide_eq_false h5
                  try simp only [List.length_map] at g5
                  refine ⟨?_, ?_⟩
                  · first | (exact pcallv_iso rfl rfl (by rw [← h5]; exact e41 _ _ hs.m); done) | (exact pcallv_iso rfl rfl (e41 _ _ hs.m); done) | (exact pcallv_iso rfl rfl (by rw [← h5]; exact e41 _ _ hs.i); done) | (exact pcallv_iso rfl rfl (e41 _ _ hs.i); done) | (exact pcallv_iso rfl rfl (by rw [← h5]; exact e41 _ _ hs.o); done) | (exact pcallv_iso rfl rfl (e41 _ _ hs.o); done) | (first | omega | contradiction | (simp_all; done); done)
                  first | (exact fin_b (Eq.symm (decide_eq_true (Mc_ext (by omega) (by omega) (R16_eq (by first | assumption | (simp_all; done) | fail)) (by assumption) (eqL' default (by omega) he) (eqL' default (by omega) hc') (by omega) (by omega) (by assumption) (by assumption)))); done) | (exact fin_b (Eq.symm (decide_eq_false (fun h => by subst h; first | contradiction | omega | (simp_all; done) | fail))); done) | (first | omega | contradiction | (simp_all; done); done)
    · obtain ⟨j, j1, j2, j3⟩ := first_false hc'
      refine wok env hC fd17 (t17c iso shr a b j) ?_ hhS
      simp only [Holds]
      refine ⟨fun h0 => ?_, fun h0 => ?_⟩
      · have g0 := bne_iff_ne.1 h0
        try simp only [List.length_map] at g0
        first | (exact fin_b (Eq.symm (decide_eq_false (fun h => by subst h; exact absurd rfl (of_decide_eq_false j2)))); done) | (exact fin_b (Eq.symm (decide_eq_false (fun h => by subst h; first | contradiction | omega | (simp_all; done) | fail))); done) | (first | omega | contradiction | (simp_all; done); done)
      · have g0 := bne_eq_false_iff_eq.1 h0
        try simp only [List.length_map] at g0
        refine ⟨fun h1 => ?_, fun h1 => ?_⟩
        · have g1 := bne_iff_ne.1 h1
          try simp only [List.length_map] at g1
          first | (exact fin_b (Eq.symm (decide_eq_false (fun h => by subst h; exact absurd rfl (of_decide_eq_false j2)))); done) | (exact fin_b (Eq.symm (decide_eq_false (fun h => by subst h; first | contradiction | omega | (simp_all; done) | fail))); done) | (first | omega | contradiction | (simp_all; done); done)
        · have g1 := bne_eq_false_iff_eq.1 h1
          try simp only [List.length_map] at g1
          refine ⟨fun h2 => ?_, fun h2 => ?_⟩
          · have g2 := h2
            first | (exact fin_b (Eq.symm (decide_eq_false (fun h => by subst h; exact absurd rfl (of_decide_eq_false j2)))); done) | (exact fin_b (Eq.symm (decide_eq_false (fun h => by subst h; first | contradiction | omega | (simp_all; done) | fail))); done) | (first | omega | contradiction | (simp_all; done); done)
          · have g2 := h2
            refine ⟨fun h3 => ?_, fun h3 => ?_⟩
            · have g3 := bne_iff_ne.1 h3
              try simp only [List.length_map] at g3
              first | (exact fin_b (Eq.symm (decide_eq_false (fun h => by subst h; exact absurd rfl (of_decide_eq_false j2)))); done) | (exact fin_b (Eq.symm (decide_eq_false (fun h => by subst h; first | contradiction | omega | (simp_all; done) | fail))); done) | (first | omega | contradiction | (simp_all; done); done)
            · have g3 := bne_eq_false_iff_eq.1 h3
              try simp only [List.length_map] at g3
              refine ⟨fun h4 => ?_, fun h4 => ?_⟩
              · have g4 := bne_iff_ne.1 h4
                try simp only [List.length_map] at g4
                first | (exact fin_b (Eq.symm (decide_eq_false (fun h => by subst h; exact absurd rfl (of_decide_eq_false j2)))); done) | (exact fin_b (Eq.symm (decide_eq_false (fun h => by subst h; first | contradiction | omega | (simp_all; done) | fail))); done) | (first | omega | contradiction | (simp_all; done); done)
              · have g4 := bne_eq_false_iff_eq.1 h4
                try simp only [List.length_map] at g4
                refine ⟨fun h5 => ?_, fun h5 => ?_⟩
                · have g5 := of_decide_eq_true h5
                  try simp only [List.length_map] at g5
                  refine ⟨?_, ?_⟩
                  · first | (exact pcallv_iso rfl rfl (by rw [← h5]; exact e41 _ _ hs.m); done) | (exact pcallv_iso rfl rfl (e41 _ _ hs.m); done) | (exact pcallv_iso rfl rfl (by rw [← h5]; exact e41 _ _ hs.i); done) | (exact pcallv_iso rfl rfl (e41 _ _ hs.i); done) | (exact pcallv_iso rfl rfl (by rw [← h5]; exact e41 _ _ hs.o); done) | (exact pcallv_iso rfl rfl (e41 _ _ hs.o); done) | (first | omega | contradiction | (simp_all; done); done)
                  refine ⟨fun h6 => ?_, fun h6 => ?_⟩
                  · have g6 := of_decide_eq_true h6
                    try simp only [List.length_map] at g6
                    refine ⟨?_, ?_⟩
                    · first | (exact pcallv_iso rfl rfl (by rw [← h6]; exact e41 _ _ hs.m); done) | (exact pcallv_iso rfl rfl (e41 _ _ hs.m); done) | (exact pcallv_iso rfl rfl (by rw [← h6]; exact e41 _ _ hs.i); done) | (exact pcallv_iso rfl rfl (e41 _ _ hs.i); done) | (exact pcallv_iso rfl rfl (by rw [← h6]; exact e41 _ _ hs.o); done) | (exact pcallv_iso rfl rfl (e41 _ _ hs.o); done) | (first | omega | contradiction | (simp_all; done); done)
                    refine ⟨fun h7 => ?_, fun h7 => ?_⟩
                    · have g7 := of_decide_eq_true h7
                      try simp only [List.length_map] at g7
                      refine ⟨?_, ?_⟩
                      · first | (exact pcallv_iso rfl rfl (by rw [← h7]; exact e41 _ _ hs.m); done) | (exact pcallv_iso rfl rfl (e41 _ _ hs.m); done) | (exact pcallv_iso rfl rfl (by rw [← h7]; exact e41 _ _ hs.i); done) | (exact pcallv_iso rfl rfl (e41 _ _ hs.i); done) | (exact pcallv_iso rfl rfl (by rw [← h7]; exact e41 _ _ hs.o); done) | (exact pcallv_iso rfl rfl (e41 _ _ hs.o); done) | (first | omega | contradiction | (simp_all; done); done)
                      refine ⟨fun h8 => ?_, fun h8 => ?_⟩
                      · have g8 := bne_iff_ne.1 h8
                        try simp only [List.length_map] at g8
                        first | (exact fin_b (Eq.symm (decide_eq_false (fun h => by subst h; exact absurd rfl (of_decide_eq_false j2)))); done) | (exact fin_b (Eq.symm (decide_eq_false (fun h => by subst h; first | contradiction | omega | (simp_all; done) | fail))); done) | (first | omega | contradiction | (simp_all; done); done)
                      · have g8 := bne_eq_false_iff_eq.1 h8
                        try simp only [List.length_map] at g8
                        refine ⟨fun h9 => ?_, fun h9 => ?_⟩
                        · have g9 := bne_iff_ne.1 h9
                          try simp only [List.length_map] at g9
                          first | (exact fin_b (Eq.symm (decide_eq_false (fun h => by subst h; exact absurd rfl (of_decide_eq_false j2)))); done) | (exact fin_b (Eq.symm (decide_eq_false (fun h => by subst h; first | contradiction | omega | (simp_all; done) | fail))); done) | (first | omega | contradiction | (simp_all; done); done)
                        · have g9 := bne_eq_false_iff_eq.1 h9
                          try simp only [List.length_map] at g9
                          refine ⟨?_, ?_⟩
                          · first | (exact ⟨trivial, (by first | trivial | simp [frzOk]), ⟨(by first | (exact VW.int (wsucc (by omega)); done) | (exact VW.int rfl; done) | (exact VW.lst rfl rfl; done) | (exact VW.cptr rfl; done) | (exact VW.fn .nil; done) | (exact VW.bool rfl; done) | (exact VW.ptr rfl rfl; done) | (exact VW.sl rfl rfl rfl rfl; done) | (exact VW.no rfl; done) | (exact VW.eo rfl; done) | (exact VW.nils; done) | (exact VW.emp; done) | (exact VW.str rfl; done) | (exact VW.int (by first | (simp; done) | fail); done)), (by first | (exact VW.int (wsucc (by omega)); done) | (exact VW.int rfl; done) | (exact VW.lst rfl rfl; done) | (exact VW.cptr rfl; done) | (exact VW.fn .nil; done) | (exact VW.bool rfl; done) | (exact VW.ptr rfl rfl; done) | (exact VW.sl rfl rfl rfl rfl; done) | (exact VW.no rfl; done) | (exact VW.eo rfl; done) | (exact VW.nils; done) | (exact VW.emp; done) | (exact VW.str rfl; done) | (exact VW.int (by first | (simp; done) | fail); done)), (by first | (exact VW.int (wsucc (by omega)); done) | (exact VW.int rfl; done) | (exact VW.lst rfl rfl; done) | (exact VW.cptr rfl; done) | (exact VW.fn .nil; done) | (exact VW.bool rfl; done) | (exact VW.ptr rfl rfl; done) | (exact VW.sl rfl rfl rfl rfl; done) | (exact VW.no rfl; done) | (exact VW.eo rfl; done) | (exact VW.nils; done) | (exact VW.emp; done) | (exact VW.str rfl; done) | (exact VW.int (by first | (simp; done) | fail); done)), trivial⟩, trivial⟩; done) | (first | omega | contradiction | (simp_all; done); done)
                          refine ⟨?_, ?_⟩
                          · first | (exact (lp17s iso shr hC e41 a b (by omega) hs).1 he; done) | (first | omega | contradiction | (simp_all; done); done)
                          refine ⟨?_, ?_⟩
                          · first | (exact ⟨trivial, (by first | trivial | simp [frzOk]), ⟨(by first | (exact VW.int (wsucc (by omega)); done) | (exact VW.int rfl; done) | (exact VW.lst rfl rfl; done) | (exact VW.cptr rfl; done) | (exact VW.fn .nil; done) | (exact VW.bool rfl; done) | (exact VW.ptr rfl rfl; done) | (exact VW.sl rfl rfl rfl rfl; done) | (exact VW.no rfl; done) | (exact VW.eo rfl; done) | (exact VW.nils; done) | (exact VW.emp; done) | (exact VW.str rfl; done) | (exact VW.int (by first | (simp; done) | fail); done)), (by first | (exact VW.int (wsucc (by omega)); done) | (exact VW.int rfl; done) | (exact VW.lst rfl rfl; done) | (exact VW.cptr rfl; done) | (exact VW.fn .nil; done) | (exact VW.bool rfl; done) | (exact VW.ptr rfl rfl; done) | (exact VW.sl rfl rfl rfl rfl; done) | (exact VW.no rfl; done) | (exact VW.eo rfl; done) | (exact VW.nils; done) | (exact VW.emp; done) | (exact VW.str rfl; done) | (exact VW.int (by first | (simp; done) | fail); done)), (by first | (exact VW.int (wsucc (by omega)); done) | (exact VW.int rfl; done) | (exact VW.lst rfl rfl; done) | (exact VW.cptr rfl; done) | (exact VW.fn .nil; done) | (exact VW.bool rfl; done) | (exact VW.ptr rfl rfl; done) | (exact VW.sl rfl rfl rfl rfl; done) | (exact VW.no rfl; done) | (exact VW.eo rfl; done) | (exact VW.nils; done) | (exact VW.emp; done) | (exact VW.str rfl; done) | (exact VW.int (by first | (simp; done) | fail); done)), trivial⟩, trivial⟩; done) | (first | omega | contradiction | (simp_all; done); done)
                          refine ⟨?_, ?_⟩
                          · first | (exact (lp17c iso shr hC a b (by omega) hs).2 j j1 j2 j3; done) | (first | omega | contradiction | (simp_all; done); done)
                          first | (exact fin_b (Eq.symm (decide_eq_false (fun h => by subst h; exact absurd rfl (of_decide_eq_false j2)))); done) | (exact fin_b (Eq.symm (decide_eq_false (fun h => by subst h; first | contradiction | omega | (simp_all; done) | fail))); done) | (first | omega | contradiction | (simp_all; done); done)
                    · have g7 := of_decide_eq_false h7
                      try simp only [List.length_map] at g7
                      refine ⟨?_, ?_⟩
                      · first | (exact pcallv_iso rfl rfl (by rw [← h7]; exact e41 _ _ hs.m); done) | (exact pcallv_iso rfl rfl (e41 _ _ hs.m); done) | (exact pcallv_iso rfl rfl (by rw [← h7]; exact e41 _ _ hs.i); done) | (exact pcallv_iso rfl rfl (e41 _ _ hs.i); done) | (exact pcallv_iso rfl rfl (by rw [← h7]; exact e41 _ _ hs.o); done) | (exact pcallv_iso rfl rfl (e41 _ _ hs.o); done) | (first | omega | contradiction | (simp_all; done); done)
                      first | (exact fin_b (Eq.symm (decide_eq_false (fun h => by subst h; exact absurd rfl (of_decide_eq_false j2)))); done) | (exact fin_b (Eq.symm (decide_eq_false (fun h => by subst h; first | contradiction | omega | (simp_all; done) | fail))); done) | (first | omega | contradiction | (simp_all; done); done)
                  · have g6 := of_decide_eq_false h6
                    try simp only [List.length_map] at g6
                    refine ⟨?_, ?_⟩
                    · first | (exact pcallv_iso rfl rfl (by rw [← h6]; exact e41 _ _ hs.m); done) | (exact pcallv_iso rfl rfl (e41 _ _ hs.m); done) | (exact pcallv_iso rfl rfl (by rw [← h6]; exact e41 _ _ hs.i); done) | (exact pcallv_iso rfl rfl (e41 _ _ hs.i); done) | (exact pcallv_iso rfl rfl (by rw [← h6]; exact e41 _ _ hs.o); done) | (exact pcallv_iso rfl rfl (e41 _ _ hs.o); done) | (first | omega | contradiction | (simp_all; done); done)
                    first | (exact fin_b (Eq.symm (decide_eq_false (fun h => by subst h; exact absurd rfl (of_decide_eq_false j2)))); done) | (exact fin_b (Eq.symm (decide_eq_false (fun h => by subst h; first | contradiction | omega | (simp_all; done) | fail))); done) | (first | omega | contradiction | (simp_all; done); done)
                · have g5 := of_decide_eq_false h5
                  try simp only [List.length_map] at g5
                  refine ⟨?_, ?_⟩
                  · first | (exact pcallv_iso rfl rfl (by rw [← h5]; exact e41 _ _ hs.m); done) | (exact pcallv_iso rfl rfl (e41 _ _ hs.m); done) | (exact pcallv_iso rfl rfl (by rw [← h5]; exact e41 _ _ hs.i); done) | (exact pcallv_iso rfl rfl (e41 _ _ hs.i); done) | (exact pcallv_iso rfl rfl (by rw [← h5]; exact e41 _ _ hs.o); done) | (exact pcallv_iso rfl rfl (e41 _ _ hs.o); done) | (first | omega | contradiction | (simp_all; done); done)
                  first | (exact fin_b (Eq.symm (decide_eq_false (fun h => by subst h; exact absurd rfl (of_decide_eq_false j2)))); done) | (exact fin_b (Eq.symm (decide_eq_false (fun h => by subst h; first | contradiction | omega | (simp_all; done) | fail))); done) | (first | omega | contradiction | (simp_all; done); done)
  · obtain ⟨j, j1, j2, j3⟩ := first_false he
    refine wok env hC fd17 (t17b iso shr a b j) ?_ hhS
    simp only [Holds]
    refine ⟨fun h0 => ?_, fun h0 => ?_⟩
    · have g0 := bne_iff_ne.1 h0
      try simp only [List.length_map] at g0
      first | (exact fin_b (Eq.symm (decide_eq_false (fun h => by subst h; exact absurd rfl (of_decide_eq_false j2)))); done) | (exact fin_b (Eq.symm (decide_eq_false (fun h => by subst h; first | contradiction | omega | (simp_all; done) | fail))); done) | (first | omega | contradiction | (simp_all; done); done)
    · have g0 := bne_eq_false_iff_eq.1 h0
      try simp only [List.length_map] at g0
      refine ⟨fun h1 => ?_, fun h1 => ?_⟩
      · have g1 := bne_iff_ne.1 h1
        try simp only [List.length_map] at g1
        first | (exact fin_b (Eq.symm (decide_eq_false (fun h => by subst h; exact absurd rfl (of_decide_eq_false j2)))); done) | (exact fin_b (Eq.symm (decide_eq_false (fun h => by subst h; first | contradiction | omega | (simp_all; done) | fail))); done) | (first | omega | contradiction | (simp_all; done); done)
      · have g1 := bne_eq_false_iff_eq.1 h1
        try simp only [List.length_map] at g1
        refine ⟨fun h2 => ?_, fun h2 => ?_⟩
        · have g2 := h2
          first | (exact fin_b (Eq.symm (decide_eq_false (fun h => by subst h; exact absurd rfl (of_decide_eq_false j2)))); done) | (exact fin_b (Eq.symm (decide_eq_false (fun h => by subst h; first | contradiction | omega | (simp_all; done) | fail))); done) | (first | omega | contradiction | (simp_all; done); done)
        · have g2 := h2
          refine ⟨fun h3 => ?_, fun h3 => ?_⟩
          · have g3 := bne_iff_ne.1 h3
            try simp only [List.length_map] at g3
            first | (exact fin_b (Eq.symm (decide_eq_false (fun h => by subst h; exact absurd rfl (of_decide_eq_false j2)))); done) | (exact fin_b (Eq.symm (decide_eq_false (fun h => by subst h; first | contradiction | omega | (simp_all; done) | fail))); done) | (first | omega | contradiction | (simp_all; done); done)
          · have g3 := bne_eq_false_iff_eq.1 h3
            try simp only [List.length_map] at g3
            refine ⟨fun h4 => ?_, fun h4 => ?_⟩
            · have g4 := bne_iff_ne.1 h4
              try simp only [List.length_map] at g4
              first | (exact fin_b (Eq.symm (decide_eq_false (fun h => by subst h; exact absurd rfl (of_decide_eq_false j2)))); done) | (exact fin_b (Eq.symm (decide_eq_false (fun h => by subst h; first | contradiction | omega | (simp_all; done) | fail))); done) | (first | omega | contradiction | (simp_all; done); done)
            · have g4 := bne_eq_false_iff_eq.1 h4
              try simp only [List.length_map] at g4
              refine ⟨fun h5 => ?_, fun h5 => ?_⟩
              · have g5 := of_decide_eq_true h5
                try simp only [List.length_map] at g5
                refine ⟨?_, ?_⟩
                · first | (exact pcallv_iso rfl rfl (by rw [← h5]; exact e41 _ _ hs.m); done) | (exact pcallv_iso rfl rfl (e41 _ _ hs.m); done) | (exact pcallv_iso rfl rfl (by rw [← h5]; exact e41 _ _ hs.i); done) | (exact pcallv_iso rfl rfl (e41 _ _ hs.i); done) | (exact pcallv_iso rfl rfl (by rw [← h5]; exact e41 _ _ hs.o); done) | (exact pcallv_iso rfl rfl (e41 _ _ hs.o); done) | (first | omega | contradiction | (simp_all; done); done)
                refine ⟨fun h6 => ?_, fun h6 => ?_⟩
                · have g6 := of_decide_eq_true h6
                  try simp only [List.length_map] at g6
                  refine ⟨?_, ?_⟩
                  · first | (exact pcallv_iso rfl rfl (by rw [← h6]; exact e41 _ _ hs.m); done) | (exact pcallv_iso rfl rfl (e41 _ _ hs.m); done) | (exact pcallv_iso rfl rfl (by rw [← h6]; exact e41 _ _ hs.i); done) | (exact pcallv_iso rfl rfl (e41 _ _ hs.i); done) | (exact pcallv_iso rfl rfl (by rw [← h6]; exact e41 _ _ hs.o); done) | (exact pcallv_iso rfl rfl (e41 _ _ hs.o); done) | (first | omega | contradiction | (simp_all; done); done)
                  refine ⟨fun h7 => ?_, fun h7 => ?_⟩
                  · have g7 := of_decide_eq_true h7
                    try simp only [List.length_map] at g7
                    refine ⟨?_, ?_⟩
                    · first | (exact pcallv_iso rfl rfl (by rw [← h7]; exact e41 _ _ hs.m); done) | (exact pcallv_iso rfl rfl (e41 _ _ hs.m); done) | (exact pcallv_iso rfl rfl (by rw [← h7]; exact e41 _ _ hs.i); done) | (exact pcallv_iso rfl rfl (e41 _ _ hs.i); done) | (exact pcallv_iso rfl rfl (by rw [← h7]; exact e41 _ _ hs.o); done) | (exact pcallv_iso rfl rfl (e41 _ _ hs.o); done) | (first | omega | contradiction | (simp_all; done); done)
                    refine ⟨fun h8 => ?_, fun h8 => ?_⟩
                    · have g8 := bne_iff_ne.1 h8
                      try simp only [List.length_map] at g8
                      first | (exact fin_b (Eq.symm (decide_eq_false (fun h => by subst h; exact absurd rfl (of_decide_eq_false j2)))); done) | (exact fin_b (Eq.symm (decide_eq_false (fun h => by subst h; first | contradiction | omega | (simp_all; done) | fail))); done) | (first | omega | contradiction | (simp_all; done); done)
                    · have g8 := bne_eq_false_iff_eq.1 h8
                      try simp only [List.length_map] at g8
                      refine ⟨fun h9 => ?_, fun h9 => ?_⟩
                      · have g9 := bne_iff_ne.1 h9
                        try simp only [List.length_map] at g9
                        first | (exact fin_b (Eq.symm (decide_eq_false (fun h => by subst h; exact absurd rfl (of_decide_eq_false j2)))); done) | (exact fin_b (Eq.symm (decide_eq_false (fun h => by subst h; first | contradiction | omega | (simp_all; done) | fail))); done) | (first | omega | contradiction | (simp_all; done); done)
                      · have g9 := bne_eq_false_iff_eq.1 h9
                        try simp only [List.length_map] at g9
                        refine ⟨?_, ?_⟩
                        · first | (exact ⟨trivial, (by first | trivial | simp [frzOk]), ⟨(by first | (exact VW.int (wsucc (by omega)); done) | (exact VW.int rfl; done) | (exact VW.lst rfl rfl; done) | (exact VW.cptr rfl; done) | (exact VW.fn .nil; done) | (exact VW.bool rfl; done) | (exact VW.ptr rfl rfl; done) | (exact VW.sl rfl rfl rfl rfl; done) | (exact VW.no rfl; done) | (exact VW.eo rfl; done) | (exact VW.nils; done) | (exact VW.emp; done) | (exact VW.str rfl; done) | (exact VW.int (by first | (simp; done) | fail); done)), (by first | (exact VW.int (wsucc (by omega)); done) | (exact VW.int rfl; done) | (exact VW.lst rfl rfl; done) | (exact VW.cptr rfl; done) | (exact VW.fn .nil; done) | (exact VW.bool rfl; done) | (exact VW.ptr rfl rfl; done) | (exact VW.sl rfl rfl rfl rfl; done) | (exact VW.no rfl; done) | (exact VW.eo rfl; done) | (exact VW.nils; done) | (exact VW.emp; done) | (exact VW.str rfl; done) | (exact VW.int (by first | (simp; done) | fail); done)), (by first | (exact VW.int (wsucc (by omega)); done) | (exact VW.int rfl; done) | (exact VW.lst rfl rfl; done) | (exact VW.cptr rfl; done) | (exact VW.fn .nil; done) | (exact VW.bool rfl; done) | (exact VW.ptr rfl rfl; done) | (exact VW.sl rfl rfl rfl rfl; done) | (exact VW.no rfl; done) | (exact VW.eo rfl; done) | (exact VW.nils; done) | (exact VW.emp; done) | (exact VW.str rfl; done) | (exact VW.int (by first | (simp; done) | fail); done)), trivial⟩, trivial⟩; done) | (first | omega | contradiction | (simp_all; done); done)
                        refine ⟨?_, ?_⟩
                        · first | (exact (lp17s iso shr hC e41 a b (by omega) hs).2 j j1 j2 j3; done) | (first | omega | contradiction | (simp_all; done); done)
                        first | (exact fin_b (Eq.symm (decide_eq_false (fun h => by subst h; exact absurd rfl (of_decide_eq_false j2)))); done) | (exact fin_b (Eq.symm (decide_eq_false (fun h => by subst h; first | contradiction | omega | (simp_all; done) | fail))); done) | (first | omega | contradiction | (simp_all; done); done)
                  · have g7 := of_decide_eq_false h7
                    try simp only [List.length_map] at g7
                    refine ⟨?_, ?_⟩
                    · first | (exact pcallv_iso rfl rfl (by rw [← h7]; exact e41 _ _ hs.m); done) | (exact pcallv_iso rfl rfl (e41 _ _ hs.m); done) | (exact pcallv_iso rfl rfl (by rw [← h7]; exact e41 _ _ hs.i); done) | (exact pcallv_iso rfl rfl (e41 _ _ hs.i); done) | (exact pcallv_iso rfl rfl (by rw [← h7]; exact e41 _ _ hs.o); done) | (exact pcallv_iso rfl rfl (e41 _ _ hs.o); done) | (first | omega | contradiction | (simp_all; done); done)
                    first | (exact fin_b (Eq.symm (decide_eq_false (fun h => by subst h; exact absurd rfl (of_decide_eq_false j2)))); done) | (exact fin_b (Eq.symm (decide_eq_false (fun h => by subst h; first | contradiction | omega | (simp_all; done) | fail))); done) | (first | omega | contradiction | (simp_all; done); done)
                · have g6 := of_decide_eq_false h6
                  try simp only [List.length_map] at g6
                  refine ⟨?_, ?_⟩
                  · first | (exact pcallv_iso rfl rfl (by rw [← h6]; exact e41 _ _ hs.m); done) | (exact pcallv_iso rfl rfl (e41 _ _ hs.m); done) | (exact pcallv_iso rfl rfl (by rw [← h6]; exact e41 _ _ hs.i); done) | (exact pcallv_iso rfl rfl (e41 _ _ hs.i); done) | (exact pcallv_iso rfl rfl (by rw [← h6]; exact e41 _ _ hs.o); done) | (exact pcallv_iso rfl rfl (e41 _ _ hs.o); done) | (first | omega | contradiction | (simp_all; done); done)
                  first | (exact fin_b (Eq.symm (decide_eq_false (fun h => by subst h; exact absurd rfl (of_decide_eq_false j2)))); done) | (exact fin_b (Eq.symm (decide_eq_false (fun h => by subst h; first | contradiction | omega | (simp_all; done) | fail))); done) | (first | omega | contradiction | (simp_all; done); done)
              · have g5 := of_decide_eq_false h5
                try simp only [List.length_map] at g5
                refine ⟨?_, ?_⟩
                · first | (exact pcallv_iso rfl rfl (by rw [← h5]; exact e41 _ _ hs.m); done) | (exact pcallv_iso rfl rfl (e41 _ _ hs.m); done) | (exact pcallv_iso rfl rfl (by rw [← h5]; exact e41 _ _ hs.i); done) | (exact pcallv_iso rfl rfl (e41 _ _ hs.i); done) | (exact pcallv_iso rfl rfl (by rw [← h5]; exact e41 _ _ hs.o); done) | (exact pcallv_iso rfl rfl (e41 _ _ hs.o); done) | (first | omega | contradiction | (simp_all; done); done)
                first | (exact fin_b (Eq.symm (decide_eq_false (fun h => by subst h; exact absurd rfl (of_decide_eq_false j2)))); done) | (exact fin_b (Eq.symm (decide_eq_false (fun h => by subst h; first | contradiction | omega | (simp_all; done) | fail))); done) | (first | omega | contradiction | (simp_all; done); done)
theorem app_emp {l : List Int} (hl : l.length ≤ 4294967296) : pappM true Tryd.prog [] (List.length ([] : List Pv.Box)) 26 26 .emp (.lst 1 (List.map J l)) = some (.own 0 1 (List.map J l), [tik 1 (l.length * 1)]) := by
  unfold pappM pappO
  rw [Tryd.underlying26]
  simp only [sz3, z3]
  rw [if_pos ⟨rfl, by decide⟩, telems_lst]
  simp only
  rw [if_pos (by rw [List.all_eq_true]; intro x hx; obtain ⟨b, _, rfl⟩ := List.mem_map.1 hx; rfl), if_pos (by rw [List.length_map]; exact bytes3 hl)]
  simp only [List.length_map]; rfl
theorem ok35  (a : List Int) (ha : a.length ≤ BB) : Ok Tryd.prog X.G 35 [nums a] (nums a) := by
  obtain ⟨iso, shr, hC⟩ : ∃ iso shr, OrcOk Tryd.prog X.G ⟨iso, shr, ownS X.sh, []⟩ := ⟨_, _, iso0⟩
  rw [BB_eq] at ha
  refine wok env hC fd35 (t35 iso shr a) ?_ hhS
  simp only [Holds]
  refine ⟨fun hb0 => ?_, ?_⟩
  ·
    first | ((have hb : a = [] := by first | (simpa using hb0) | fail); (subst hb; exact ⟨_, _, rfl, Sub.nils 1⟩); done) | (exact ⟨_, _, rfl, Sub.refl _⟩; done) | (first | omega | contradiction | (simp_all; done); done)
  ·
    refine ⟨?_, ?_⟩
    · first | (exact app_emp (by omega); done) | (exact px26 (by omega); done) | (exact px27 (by omega); done) | (exact px28 (by omega); done) | (first | omega | contradiction | (simp_all; done); done)
    first | ((have hb : a = [] := by first | (simpa using hb0) | fail); (subst hb; exact ⟨_, _, rfl, Sub.nils 1⟩); done) | (exact ⟨_, _, rfl, Sub.refl _⟩; done) | (first | omega | contradiction | (simp_all; done); done)
end Go.Proofs.YtfhojpnofmlkdaaDoor
