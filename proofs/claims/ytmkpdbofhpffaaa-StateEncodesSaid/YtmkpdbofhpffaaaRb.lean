/- Functions of this stage, by what they answer. -/
import Derived.Test.YtmkpdbofhpffaaaRa
namespace Go.Proofs.Ytmkpdbofhpffaaa
open Go.Proofs.Ytmkpdbofhpffaaa.Pv Go.RowKit
set_option maxRecDepth 100000
set_option maxHeartbeats 4000000
set_option linter.unusedSimpArgs false
set_option linter.unusedVariables false
set_option maxHeartbeats 2000000
theorem orcK {t : Tab} (ht : TabOk Try.prog X.G t) : OrcOk Try.prog X.G ⟨(tab X.sh t []).iso, no_shr, ownS X.sh, []⟩ := ⟨(tab_orc ht tn').iso, (fun _ _ _ _ _ h => by cases h)⟩
theorem map_inj {α : Type} {f : α → PV} (hf : ∀ a b, f a = f b → a = b) : ∀ {l m : List α}, l.map f = m.map f → l = m
  | [], [], _ => rfl
  | a :: l, b :: m, h => by simp only [List.map_cons, List.cons.injEq] at h; rw [hf _ _ h.1, map_inj hf h.2]
  | [], _ :: _, h => by simp at h
  | _ :: _, [], h => by simp at h
theorem ints_inj {a b : List Int} : ints a = ints b ↔ a = b := ⟨fun h => by unfold ints at h; simp only [PV.lst.injEq, true_and] at h; exact map_inj (fun a b h => by unfold I at h; simpa using h) h, fun h => by rw [h]⟩
theorem cells_inj {a b : List (List Int)} : cells a = cells b ↔ a = b := ⟨fun h => by unfold cells at h; simp only [PV.lst.injEq, true_and] at h; exact map_inj (fun a b h => ints_inj.1 h) h, fun h => by rw [h]⟩
theorem VD_inj {a b : VD} : a.pv = b.pv ↔ a = b := ⟨fun h => by obtain ⟨x, y, z⟩ := a; obtain ⟨x', y', z'⟩ := b; simp [VD.pv, VD.cs] at h; simp [h], fun h => by rw [h]⟩
theorem vars_inj {a b : List VD} : vars a = vars b ↔ a = b := ⟨fun h => by unfold vars at h; simp only [PV.lst.injEq, true_and] at h; exact map_inj (fun a b h => VD_inj.1 h) h, fun h => by rw [h]⟩
theorem St_inj {a b : St} : a.pv = b.pv ↔ a = b := ⟨fun h => by obtain ⟨x, y, z⟩ := a; obtain ⟨x', y', z'⟩ := b; simp only [St.pv, St.cs, PV.agg.injEq, List.cons.injEq, cells_inj, ints_inj, and_true] at h; simp [h], fun h => by rw [h]⟩
theorem sz3 : szT Try.prog 3 = some 1 := by kernel_rfl
theorem sz23 : szT Try.prog 23 = some 1 := by kernel_rfl
theorem sz36 : szT Try.prog 36 = some 3 := by kernel_rfl
theorem px23 {l : List Int} {i : Nat} {hp : List Pv.Box} (h : i < l.length) : (pidx Try.prog 23 (.lst 1 (l.map I)) (.int .i64 (i : Int))).map (fun v => (v, hp)) = some (.cptr [.int .i64 (List.getD l i 0)], hp) := px_map Try.underlying23 sz3 h rfl
theorem px25 {l : List (List Int)} {i : Nat} {hp : List Pv.Box} (h : i < l.length) : (pidx Try.prog 25 (.lst 1 (l.map ints)) (.int .i64 (i : Int))).map (fun v => (v, hp)) = some (.cptr [.lst 1 (List.map I (List.getD l i default))], hp) := px_map Try.underlying25 sz23 h rfl
theorem px22 {l : List VD} {i : Nat} {hp : List Pv.Box} (h : i < l.length) : (pidx Try.prog 22 (.lst 3 (l.map VD.pv)) (.int .i64 (i : Int))).map (fun v => (v, hp)) = some (.cptr [.str (VD.nm (List.getD l i default)), .int .u8 (VD.k (List.getD l i default)), .int .i64 (VD.n (List.getD l i default))], hp) := px_map Try.underlying22 sz36 h rfl
def BB : Nat := 1000000
theorem BB_eq : BB = 1000000 := rfl
theorem iso0 : OrcOk Try.prog X.G ⟨fun _ _ => none, no_shr, ownS X.sh, []⟩ := ⟨(fun _ _ _ h => by cases h), (fun _ _ _ _ _ h => by cases h)⟩
theorem shC {iso : Nat → List PV → Option PV} {s : Nat → Bool} (n : Nat) : (Orc.mk iso no_shr s []).sh n = s n := rfl
theorem hhG {iso : Nat → List PV → Option PV} {sh : Nat → Bool} : (Orc.mk iso no_shr (ownS sh) []).hs = fun g => sh (g + Pv.far) := by
  funext g
  have h := ownS_far sh (g + Pv.far) (by unfold Pv.far; omega)
  rw [Pv.hs_at, shC, h]
theorem hhC {iso : Nat → List PV → Option PV} : (Orc.mk iso no_shr (ownS X.sh) []).hs = X.hs := hhG
theorem dec_ne {p : Prop} [Decidable p] (h : ¬ p) : false = decide p := by simp [h]
theorem dec_eq {p : Prop} [Decidable p] (h : p) : true = decide p := by simp [h]
theorem eqL {α : Type} [DecidableEq α] (d : α) {a b : List α} : decide (a = b) = true ↔ a.length = b.length ∧ ∀ j, j < a.length → decide (a.getD j d = b.getD j d) = true := by
  simp only [decide_eq_true_eq]
  exact ⟨fun h => by subst h; exact ⟨rfl, fun _ _ => rfl⟩, fun h => ext_getD h.1 h.2⟩
def hd19 (a : List Int) (b : List Int) (i : Nat) : PS := ⟨⟨26, [(5, .int .i64 ((i : Nat) : Int)), (1, ints b), (0, ints a)]⟩, []⟩
def en19 (a : List Int) (b : List Int) : PS := ⟨⟨26, []⟩, []⟩
theorem lp19 (iso : Nat → List PV → Option PV) (hC : OrcOk Try.prog X.G ⟨iso, no_shr, ownS X.sh, []⟩)  (a : List Int) (b : List Int) (hl : a.length = b.length) (ha : a.length ≤ BB) : ((∀ j, j < a.length → decide (a.getD j 0 = b.getD j 0) = true) → LoopOk Try.prog X.G 0 (lpB Try.f19 4) (hd19 a b 0) (.exit 0) (en19 a b)) ∧ (∀ j, j < a.length → decide (a.getD j 0 = b.getD j 0) = false → (∀ k, k < j → decide (a.getD k 0 = b.getD k 0) = true) → LoopOk Try.prog X.G 0 (lpB Try.f19 4) (hd19 a b 0) .ret ⟨⟨26, [(4, .bool false)]⟩, []⟩) := by
  refine loop_first (S := hd19 a b) (c := fun i => decide (a.getD i 0 = b.getD i 0)) (e1 := fun i => (.ret, ⟨⟨26, [(4, .bool false)]⟩, []⟩)) (e2 := (.exit 0, en19 a b)) (fun i hi hc e s' nx => ?_) (fun i hi hc => ?_) ?_
  · refine round_ok env.mixed hC (by kernel_rfl) (r19 iso a b i) ?_
    simp only [Holds, Pv.Next]
    rw [BB_eq] at ha
    try simp only [decide_eq_true_eq, decide_eq_false_iff_not] at hc
    refine ⟨fun h0 => ?_, fun h0 => ?_⟩
    · have g0 := of_decide_eq_true h0
      try simp only [List.length_map] at g0
      refine ⟨?_, ?_⟩
      · exact px23 (by omega)
      refine ⟨?_, ?_⟩
      · exact px23 (by omega)
      refine ⟨fun h1 => ?_, fun h1 => ?_⟩
      · have g1 := bne_iff_ne.1 h1
        try simp only [List.length_map] at g1
        refine ⟨by trivial, ?_⟩
        refine ⟨?_, ?_⟩
        · exact ⟨trivial, (by trivial), ⟨(by exact VW.bool rfl), trivial⟩, trivial⟩
        trivial
      · have g1 := bne_eq_false_iff_eq.1 h1
        try simp only [List.length_map] at g1
        refine ⟨?_, ?_⟩
        · exact ⟨trivial, (by trivial), ⟨(by exact VW.int (wsucc (by omega))), (by exact VW.lst rfl rfl), (by exact VW.lst rfl rfl), trivial⟩, trivial⟩
        exact nx
    · have g0 := of_decide_eq_false h0
      try simp only [List.length_map] at g0
      refine ⟨by trivial, ?_⟩
      refine ⟨?_, ?_⟩
      · exact ⟨trivial, (by trivial), trivial, trivial⟩
      (omega)
  · refine round_ok env.mixed hC (by kernel_rfl) (r19 iso a b i) ?_
    simp only [Holds, Pv.Next]
    rw [BB_eq] at ha
    try simp only [decide_eq_true_eq, decide_eq_false_iff_not] at hc
    refine ⟨fun h0 => ?_, fun h0 => ?_⟩
    · have g0 := of_decide_eq_true h0
      try simp only [List.length_map] at g0
      refine ⟨?_, ?_⟩
      · exact px23 (by omega)
      refine ⟨?_, ?_⟩
      · exact px23 (by omega)
      refine ⟨fun h1 => ?_, fun h1 => ?_⟩
      · have g1 := bne_iff_ne.1 h1
        try simp only [List.length_map] at g1
        refine ⟨by trivial, ?_⟩
        refine ⟨?_, ?_⟩
        · exact ⟨trivial, (by trivial), ⟨(by exact VW.bool rfl), trivial⟩, trivial⟩
        trivial
      · have g1 := bne_eq_false_iff_eq.1 h1
        try simp only [List.length_map] at g1
        refine ⟨?_, ?_⟩
        · exact ⟨trivial, (by trivial), ⟨(by exact VW.int (wsucc (by omega))), (by exact VW.lst rfl rfl), (by exact VW.lst rfl rfl), trivial⟩, trivial⟩
        (omega)
    · have g0 := of_decide_eq_false h0
      try simp only [List.length_map] at g0
      refine ⟨by trivial, ?_⟩
      refine ⟨?_, ?_⟩
      · exact ⟨trivial, (by trivial), trivial, trivial⟩
      (omega)
  · refine round_ok env.mixed hC (by kernel_rfl) (r19 iso a b (a.length)) ?_
    simp only [Holds, Pv.Next]
    have hc : True := trivial
    rw [BB_eq] at ha
    try simp only [decide_eq_true_eq, decide_eq_false_iff_not] at hc
    refine ⟨fun h0 => ?_, fun h0 => ?_⟩
    · have g0 := of_decide_eq_true h0
      try simp only [List.length_map] at g0
      refine ⟨?_, ?_⟩
      · exact px23 (by omega)
      refine ⟨?_, ?_⟩
      · exact px23 (by omega)
      refine ⟨fun h1 => ?_, fun h1 => ?_⟩
      · have g1 := bne_iff_ne.1 h1
        try simp only [List.length_map] at g1
        refine ⟨by trivial, ?_⟩
        refine ⟨?_, ?_⟩
        · exact ⟨trivial, (by trivial), ⟨(by exact VW.bool rfl), trivial⟩, trivial⟩
        (omega)
      · have g1 := bne_eq_false_iff_eq.1 h1
        try simp only [List.length_map] at g1
        refine ⟨?_, ?_⟩
        · exact ⟨trivial, (by trivial), ⟨(by exact VW.int (wsucc (by omega))), (by exact VW.lst rfl rfl), (by exact VW.lst rfl rfl), trivial⟩, trivial⟩
        (omega)
    · have g0 := of_decide_eq_false h0
      try simp only [List.length_map] at g0
      refine ⟨by trivial, ?_⟩
      refine ⟨?_, ?_⟩
      · exact ⟨trivial, (by trivial), trivial, trivial⟩
      exact ⟨trivial, rfl⟩
theorem ok19 (a : List Int) (b : List Int) (ha : a.length ≤ BB) : Ok Try.prog X.G 19 [ints a, ints b] (.bool (decide (a = b))) := by
  obtain ⟨iso, hC⟩ : ∃ iso : Nat → List PV → Option PV, OrcOk Try.prog X.G ⟨iso, no_shr, ownS X.sh, []⟩ := ⟨_, iso0⟩
  by_cases he : ∀ j, j < a.length → decide (a.getD j 0 = b.getD j 0) = true
  · refine wok env hC fd19 (t19a iso a b) ?_ hhC
    simp only [Holds]
    refine ⟨fun h0 => ?_, fun h0 => ?_⟩
    · have g0 := bne_iff_ne.1 h0
      try simp only [List.length_map] at g0
      (exact fin_b (Eq.symm (Bool.eq_false_iff.2 (fun h => by have q := (eqL 0).1 h; omega))))
    · have g0 := bne_eq_false_iff_eq.1 h0
      try simp only [List.length_map] at g0
      refine ⟨?_, ?_⟩
      · exact ⟨trivial, (by trivial), ⟨(by exact VW.int rfl), (by exact VW.lst rfl rfl), (by exact VW.lst rfl rfl), trivial⟩, trivial⟩
      refine ⟨?_, ?_⟩
      · exact (lp19 iso hC  a b (by omega) ha).1 he
      exact fin_b (Eq.symm ((eqL 0).2 ⟨by omega, he⟩))
  · obtain ⟨j, j1, j2, j3⟩ := first_false he
    refine wok env hC fd19 (t19b iso a b j) ?_ hhC
    simp only [Holds]
    refine ⟨fun h0 => ?_, fun h0 => ?_⟩
    · have g0 := bne_iff_ne.1 h0
      try simp only [List.length_map] at g0
      (exact fin_b (Eq.symm (Bool.eq_false_iff.2 (fun h => by have q := (eqL 0).1 h; omega))))
    · have g0 := bne_eq_false_iff_eq.1 h0
      try simp only [List.length_map] at g0
      refine ⟨?_, ?_⟩
      · exact ⟨trivial, (by trivial), ⟨(by exact VW.int rfl), (by exact VW.lst rfl rfl), (by exact VW.lst rfl rfl), trivial⟩, trivial⟩
      refine ⟨?_, ?_⟩
      · exact (lp19 iso hC  a b (by omega) ha).2 j j1 j2 j3
      (exact fin_b (Eq.symm (Bool.eq_false_iff.2 (fun h => by have q := (eqL 0).1 h; (simp_all)))))
def hd38 (a : List Int) (b : List Int) (i : Nat) : PS := ⟨⟨26, [(13, .int .i64 ((i : Nat) : Int)), (1, ints b), (0, ints a), (12, .int .i64 (List.length a : Int))]⟩, []⟩
def en38 (a : List Int) (b : List Int) : PS := ⟨⟨26, []⟩, []⟩
theorem lp38 (iso : Nat → List PV → Option PV) (hC : OrcOk Try.prog X.G ⟨iso, no_shr, ownS X.sh, []⟩)  (a : List Int) (b : List Int) (hl : a.length = b.length) (ha : a.length ≤ BB) : ((∀ j, j < a.length → decide (a.getD j 0 = b.getD j 0) = true) → LoopOk Try.prog X.G 0 (lpB Try.f38 4) (hd38 a b 0) (.exit 0) (en38 a b)) ∧ (∀ j, j < a.length → decide (a.getD j 0 = b.getD j 0) = false → (∀ k, k < j → decide (a.getD k 0 = b.getD k 0) = true) → LoopOk Try.prog X.G 0 (lpB Try.f38 4) (hd38 a b 0) .ret ⟨⟨26, [(4, .bool false)]⟩, []⟩) := by
  refine loop_first (S := hd38 a b) (c := fun i => decide (a.getD i 0 = b.getD i 0)) (e1 := fun i => (.ret, ⟨⟨26, [(4, .bool false)]⟩, []⟩)) (e2 := (.exit 0, en38 a b)) (fun i hi hc e s' nx => ?_) (fun i hi hc => ?_) ?_
  · refine round_ok env.mixed hC (by kernel_rfl) (r38 iso a b i) ?_
    simp only [Holds, Pv.Next]
    rw [BB_eq] at ha
    try simp only [decide_eq_true_eq, decide_eq_false_iff_not] at hc
    refine ⟨fun h0 => ?_, fun h0 => ?_⟩
    · have g0 := of_decide_eq_true h0
      try simp only [List.length_map] at g0
      refine ⟨?_, ?_⟩
      · exact px23 (by omega)
      refine ⟨?_, ?_⟩
      · exact px23 (by omega)
      refine ⟨fun h1 => ?_, fun h1 => ?_⟩
      · have g1 := bne_iff_ne.1 h1
        try simp only [List.length_map] at g1
        refine ⟨by trivial, ?_⟩
        refine ⟨?_, ?_⟩
        · exact ⟨trivial, (by trivial), ⟨(by exact VW.bool rfl), trivial⟩, trivial⟩
        trivial
      · have g1 := bne_eq_false_iff_eq.1 h1
        try simp only [List.length_map] at g1
        refine ⟨?_, ?_⟩
        · exact ⟨trivial, (by trivial), ⟨(by exact VW.int (wsucc (by omega))), (by exact VW.lst rfl rfl), (by exact VW.lst rfl rfl), (by exact VW.int rfl), trivial⟩, trivial⟩
        exact nx
    · have g0 := of_decide_eq_false h0
      try simp only [List.length_map] at g0
      refine ⟨by trivial, ?_⟩
      refine ⟨?_, ?_⟩
      · exact ⟨trivial, (by trivial), trivial, trivial⟩
      (omega)
  · refine round_ok env.mixed hC (by kernel_rfl) (r38 iso a b i) ?_
    simp only [Holds, Pv.Next]
    rw [BB_eq] at ha
    try simp only [decide_eq_true_eq, decide_eq_false_iff_not] at hc
    refine ⟨fun h0 => ?_, fun h0 => ?_⟩
    · have g0 := of_decide_eq_true h0
      try simp only [List.length_map] at g0
      refine ⟨?_, ?_⟩
      · exact px23 (by omega)
      refine ⟨?_, ?_⟩
      · exact px23 (by omega)
      refine ⟨fun h1 => ?_, fun h1 => ?_⟩
      · have g1 := bne_iff_ne.1 h1
        try simp only [List.length_map] at g1
        refine ⟨by trivial, ?_⟩
        refine ⟨?_, ?_⟩
        · exact ⟨trivial, (by trivial), ⟨(by exact VW.bool rfl), trivial⟩, trivial⟩
        trivial
      · have g1 := bne_eq_false_iff_eq.1 h1
        try simp only [List.length_map] at g1
        refine ⟨?_, ?_⟩
        · exact ⟨trivial, (by trivial), ⟨(by exact VW.int (wsucc (by omega))), (by exact VW.lst rfl rfl), (by exact VW.lst rfl rfl), (by exact VW.int rfl), trivial⟩, trivial⟩
        (omega)
    · have g0 := of_decide_eq_false h0
      try simp only [List.length_map] at g0
      refine ⟨by trivial, ?_⟩
      refine ⟨?_, ?_⟩
      · exact ⟨trivial, (by trivial), trivial, trivial⟩
      (omega)
  · refine round_ok env.mixed hC (by kernel_rfl) (r38 iso a b (a.length)) ?_
    simp only [Holds, Pv.Next]
    have hc : True := trivial
    rw [BB_eq] at ha
    try simp only [decide_eq_true_eq, decide_eq_false_iff_not] at hc
    refine ⟨fun h0 => ?_, fun h0 => ?_⟩
    · have g0 := of_decide_eq_true h0
      try simp only [List.length_map] at g0
      refine ⟨?_, ?_⟩
      · exact px23 (by omega)
      refine ⟨?_, ?_⟩
      · exact px23 (by omega)
      refine ⟨fun h1 => ?_, fun h1 => ?_⟩
      · have g1 := bne_iff_ne.1 h1
        try simp only [List.length_map] at g1
        refine ⟨by trivial, ?_⟩
        refine ⟨?_, ?_⟩
        · exact ⟨trivial, (by trivial), ⟨(by exact VW.bool rfl), trivial⟩, trivial⟩
        (omega)
      · have g1 := bne_eq_false_iff_eq.1 h1
        try simp only [List.length_map] at g1
        refine ⟨?_, ?_⟩
        · exact ⟨trivial, (by trivial), ⟨(by exact VW.int (wsucc (by omega))), (by exact VW.lst rfl rfl), (by exact VW.lst rfl rfl), (by exact VW.int rfl), trivial⟩, trivial⟩
        (omega)
    · have g0 := of_decide_eq_false h0
      try simp only [List.length_map] at g0
      refine ⟨by trivial, ?_⟩
      refine ⟨?_, ?_⟩
      · exact ⟨trivial, (by trivial), trivial, trivial⟩
      exact ⟨trivial, rfl⟩
theorem ok38 (a : List Int) (b : List Int) (ha : a.length ≤ BB) : Ok Try.prog X.G 38 [ints a, ints b] (.bool (decide (a = b))) := by
  obtain ⟨iso, hC⟩ : ∃ iso : Nat → List PV → Option PV, OrcOk Try.prog X.G ⟨iso, no_shr, ownS X.sh, []⟩ := ⟨_, iso0⟩
  by_cases he : ∀ j, j < a.length → decide (a.getD j 0 = b.getD j 0) = true
  · refine wok env hC fd38 (t38a iso a b) ?_ hhC
    simp only [Holds]
    refine ⟨fun h0 => ?_, fun h0 => ?_⟩
    · have g0 := bne_iff_ne.1 h0
      try simp only [List.length_map] at g0
      (exact fin_b (Eq.symm (Bool.eq_false_iff.2 (fun h => by have q := (eqL 0).1 h; omega))))
    · have g0 := bne_eq_false_iff_eq.1 h0
      try simp only [List.length_map] at g0
      refine ⟨?_, ?_⟩
      · exact ⟨trivial, (by trivial), ⟨(by exact VW.int rfl), (by exact VW.lst rfl rfl), (by exact VW.lst rfl rfl), (by exact VW.int (by simp)), trivial⟩, trivial⟩
      refine ⟨?_, ?_⟩
      · exact (lp38 iso hC  a b (by omega) ha).1 he
      exact fin_b (Eq.symm ((eqL 0).2 ⟨by omega, he⟩))
  · obtain ⟨j, j1, j2, j3⟩ := first_false he
    refine wok env hC fd38 (t38b iso a b j) ?_ hhC
    simp only [Holds]
    refine ⟨fun h0 => ?_, fun h0 => ?_⟩
    · have g0 := bne_iff_ne.1 h0
      try simp only [List.length_map] at g0
      (exact fin_b (Eq.symm (Bool.eq_false_iff.2 (fun h => by have q := (eqL 0).1 h; omega))))
    · have g0 := bne_eq_false_iff_eq.1 h0
      try simp only [List.length_map] at g0
      refine ⟨?_, ?_⟩
      · exact ⟨trivial, (by trivial), ⟨(by exact VW.int rfl), (by exact VW.lst rfl rfl), (by exact VW.lst rfl rfl), (by exact VW.int (by simp)), trivial⟩, trivial⟩
      refine ⟨?_, ?_⟩
      · exact (lp38 iso hC  a b (by omega) ha).2 j j1 j2 j3
      (exact fin_b (Eq.symm (Bool.eq_false_iff.2 (fun h => by have q := (eqL 0).1 h; (simp_all)))))
theorem badV_iff {v : VD} : badV v = false ↔ ((v.k = 1 ∨ v.k = 3) ∧ v.n = 0) ∨ (v.k = 2 ∧ 1 ≤ v.n ∧ v.n ≤ 16) := by
  unfold badV
  split
  · rename_i h; simp [h]; omega
  · split
    · rename_i h; simp [h] <;> omega
    · rename_i h h'; simp only [not_or] at h; simp [h, h']
theorem wid_eq (v : VD) : (v.k = 1 → wid v = 1) ∧ (v.k ≠ 1 → wid v = v.n) := by unfold wid; constructor <;> intro h <;> simp [h]
theorem fitC_iff {v : VD} {c : List Int} : fitC v c = true ↔ (v.k = 3 → c.length ≤ 1000) ∧ (v.k ≠ 3 → (c.length : Int) = wid v) := by
  unfold fitC
  split
  · rename_i h; simp [h]
  · rename_i h; simp [h]
theorem badV_not {v : VD} : badV v = true ↔ ¬ (((v.k = 1 ∨ v.k = 3) ∧ v.n = 0) ∨ (v.k = 2 ∧ 1 ≤ v.n ∧ v.n ≤ 16)) := by rw [← badV_iff]; simp
theorem fitC_not {v : VD} {c : List Int} : fitC v c = false ↔ ¬ ((v.k = 3 → c.length ≤ 1000) ∧ (v.k ≠ 3 → (c.length : Int) = wid v)) := by rw [← fitC_iff]; simp
theorem any_iff {l : List VD} : l.any badV = false ↔ ∀ j, j < l.length → (!badV (l.getD j default)) = true := by
  rw [List.any_eq_false]
  constructor
  · intro h j hj
    have := h (l.getD j default) (by rw [List.getD_eq_getElem?_getD, List.getElem?_eq_getElem hj]; exact List.getElem_mem hj)
    simpa using this
  · intro h x hx
    obtain ⟨j, hj, rfl⟩ := List.getElem_of_mem hx
    have := h j hj
    rw [List.getD_eq_getElem?_getD, List.getElem?_eq_getElem hj] at this
    simpa using this
theorem valV_iff {l : List VD} : valV l = true ↔ l.length ≤ 32 ∧ ∀ j, j < l.length → (!badV (l.getD j default)) = true := by
  unfold valV
  rw [Bool.and_eq_true, Bool.not_eq_true', any_iff, decide_eq_true_iff]
theorem ixV_iff {l : List VD} : ((∀ j, j < l.length → (!badV (l.getD j default)) = true) → ixV l = -1) ∧ (∀ j, j < l.length → (!badV (l.getD j default)) = false → (∀ k, k < j → (!badV (l.getD k default)) = true) → ixV l = (j : Int)) := by
  constructor
  · intro h
    have : l.findIdx? badV = none := by
      rw [List.findIdx?_eq_none_iff]
      exact fun x hx => by simpa using (List.any_eq_false.1 (any_iff.2 h)) x hx
    unfold ixV; rw [this]
  · intro j hj h1 h2
    have : l.findIdx? badV = some j := by
      rw [List.findIdx?_eq_some_iff_getElem]
      refine ⟨hj, ?_, fun k hk => ?_⟩
      · rw [List.getD_eq_getElem?_getD, List.getElem?_eq_getElem hj] at h1; simpa using h1
      · have := h2 k hk
        rw [List.getD_eq_getElem?_getD, List.getElem?_eq_getElem (by omega)] at this; simpa using this
    unfold ixV; rw [this]
theorem ixV_any {l : List VD} : l.any badV = true ↔ ixV l ≥ 0 := by
  by_cases h : ∀ j, j < l.length → (!badV (l.getD j default)) = true
  · rw [ixV_iff.1 h, any_iff.2 h]; simp
  · obtain ⟨j, h1, h2, h3⟩ := first_false h
    rw [ixV_iff.2 j h1 h2 h3]
    have : l.any badV = true := by
      rw [← Bool.not_eq_false]; exact fun h' => h (any_iff.1 h')
    simp [this]
theorem sml_iff {s : St} : sml s = 1 ↔ s.c.length ≤ 40 ∧ s.i.length ≤ 60 ∧ s.o.length ≤ 60 ∧ ∀ j, j < s.c.length → decide ((s.c.getD j default).length ≤ 60) = true := by
  have : (∀ j, j < s.c.length → decide ((s.c.getD j default).length ≤ 60) = true) ↔ ∀ c ∈ s.c, c.length ≤ 60 := by
    constructor
    · intro h x hx
      obtain ⟨j, hj, rfl⟩ := List.getElem_of_mem hx
      have := h j hj
      rw [List.getD_eq_getElem?_getD, List.getElem?_eq_getElem hj] at this
      simpa using this
    · intro h j hj
      have := h (s.c.getD j default) (by rw [List.getD_eq_getElem?_getD, List.getElem?_eq_getElem hj]; exact List.getElem_mem hj)
      simpa using this
  rw [this]
  unfold sml
  split <;> simp_all
theorem sml_no {s : St} : sml s = 0 ↔ ¬ sml s = 1 := by unfold sml; split <;> simp
theorem fitV_iff {l : List VD} {s : St} : fitV l s = true ↔ valV l = true ∧ s.c.length = l.length ∧ s.i.length ≤ 4096 ∧ s.o.length ≤ 4096 ∧ ∀ j, j < l.length → fitC (l.getD j default) (s.c.getD j default) = true := by
  unfold fitV
  simp only [Bool.and_eq_true, beq_iff_eq, decide_eq_true_eq, List.all_eq_true, and_assoc]
  refine and_congr_right fun _ => and_congr_right fun hl => and_congr_right fun _ => and_congr_right fun _ => ?_
  constructor
  · intro h j hj
    have := h ((l.getD j default), (s.c.getD j default)) (by
      rw [List.getD_eq_getElem?_getD, List.getElem?_eq_getElem hj, List.getD_eq_getElem?_getD, List.getElem?_eq_getElem (by omega)]
      have := List.getElem_mem (l := l.zip s.c) (n := j) (by simp; omega)
      simpa using this)
    exact this
  · intro h x hx
    obtain ⟨j, hj, rfl⟩ := List.getElem_of_mem hx
    simp only [List.length_zip] at hj
    have := h j (by omega)
    rw [List.getD_eq_getElem?_getD, List.getElem?_eq_getElem (by omega), List.getD_eq_getElem?_getD, List.getElem?_eq_getElem (by omega)] at this
    simpa using this
theorem ok54 (v : VD)  : Ok Try.prog X.G 54 [v.pv] (.bool (badV v)) := by
  obtain ⟨iso, hC⟩ : ∃ iso : Nat → List PV → Option PV, OrcOk Try.prog X.G ⟨iso, no_shr, ownS X.sh, []⟩ := ⟨_, iso0⟩
  refine wok env hC fd54 (t54 iso v) ?_ hhC
  simp only [Holds]
  refine ⟨fun h0 => ?_, fun h0 => ?_⟩
  · have g0 := beq_iff_eq.1 h0
    try simp only [List.length_map] at g0
    refine ⟨fun h1 => ?_, fun h1 => ?_⟩
    · have g1 := bne_iff_ne.1 h1
      try simp only [List.length_map] at g1
      exact fin_b (Eq.symm (badV_not.2 (by omega)))
    · have g1 := bne_eq_false_iff_eq.1 h1
      try simp only [List.length_map] at g1
      exact fin_b (Eq.symm (badV_iff.2 (by omega)))
  · have g0 := beq_eq_false_iff_ne.1 h0
    try simp only [List.length_map] at g0
    refine ⟨fun h2 => ?_, fun h2 => ?_⟩
    · have g2 := beq_iff_eq.1 h2
      try simp only [List.length_map] at g2
      refine ⟨fun h3 => ?_, fun h3 => ?_⟩
      · have g3 := bne_iff_ne.1 h3
        try simp only [List.length_map] at g3
        exact fin_b (Eq.symm (badV_not.2 (by omega)))
      · have g3 := bne_eq_false_iff_eq.1 h3
        try simp only [List.length_map] at g3
        exact fin_b (Eq.symm (badV_iff.2 (by omega)))
    · have g2 := beq_eq_false_iff_ne.1 h2
      try simp only [List.length_map] at g2
      refine ⟨fun h4 => ?_, fun h4 => ?_⟩
      · have g4 := beq_iff_eq.1 h4
        try simp only [List.length_map] at g4
        refine ⟨fun h5 => ?_, fun h5 => ?_⟩
        · have g5 := of_decide_eq_true h5
          try simp only [List.length_map] at g5
          exact fin_b (Eq.symm (badV_not.2 (by omega)))
        · have g5 := of_decide_eq_false h5
          try simp only [List.length_map] at g5
          refine ⟨fun h6 => ?_, fun h6 => ?_⟩
          · have g6 := of_decide_eq_true h6
            try simp only [List.length_map] at g6
            exact fin_b (Eq.symm (badV_not.2 (by omega)))
          · have g6 := of_decide_eq_false h6
            try simp only [List.length_map] at g6
            exact fin_b (Eq.symm (badV_iff.2 (by omega)))
      · have g4 := beq_eq_false_iff_ne.1 h4
        try simp only [List.length_map] at g4
        exact fin_b (Eq.symm (badV_not.2 (by omega)))
theorem ok36 (v : VD)  : Ok Try.prog X.G 36 [v.pv] (I (wid v)) := by
  obtain ⟨iso, hC⟩ : ∃ iso : Nat → List PV → Option PV, OrcOk Try.prog X.G ⟨iso, no_shr, ownS X.sh, []⟩ := ⟨_, iso0⟩
  refine wok env hC fd36 (t36 iso v) ?_ hhC
  simp only [Holds]
  refine ⟨fun h0 => ?_, fun h0 => ?_⟩
  · have g0 := beq_iff_eq.1 h0
    try simp only [List.length_map] at g0
    (exact fin_i (by have := wid_eq v; omega))
  · have g0 := beq_eq_false_iff_ne.1 h0
    try simp only [List.length_map] at g0
    (exact fin_i (by have := wid_eq v; omega))
theorem la1 : ∃ iso : Nat → List PV → Option PV, OrcOk Try.prog X.G ⟨iso, no_shr, ownS X.sh, []⟩ ∧ (∀ (a : List Int) (b : List Int), a.length ≤ BB → iso 19 [ints a, ints b] = some (.bool (decide (a = b)))) ∧ (∀ (a : List Int) (b : List Int), a.length ≤ BB → iso 38 [ints a, ints b] = some (.bool (decide (a = b)))) ∧ (∀ (v : VD), iso 54 [v.pv] = some (.bool (badV v))) ∧ (∀ (v : VD), iso 36 [v.pv] = some (I (wid v))) := by
  obtain ⟨h19, e19, o19⟩ := ent_ex (fun q : (List Int) × (List Int) => (q.1).length ≤ BB) (fun q => ([ints (q.1), ints (q.2)], .bool (decide ((q.1) = (q.2))))) (fun a b h => by simp only [List.cons.injEq, ints_inj, cells_inj, vars_inj, VD_inj, St_inj, PV.int.injEq, and_true, true_and] at h; simp only [h])
  obtain ⟨h38, e38, o38⟩ := ent_ex (fun q : (List Int) × (List Int) => (q.1).length ≤ BB) (fun q => ([ints (q.1), ints (q.2)], .bool (decide ((q.1) = (q.2))))) (fun a b h => by simp only [List.cons.injEq, ints_inj, cells_inj, vars_inj, VD_inj, St_inj, PV.int.injEq, and_true, true_and] at h; simp only [h])
  obtain ⟨h54, e54, o54⟩ := ent_ex (fun q : VD => True) (fun q => ([(q).pv], .bool (badV (q)))) (fun a b h => by simp only [List.cons.injEq, ints_inj, cells_inj, vars_inj, VD_inj, St_inj, PV.int.injEq, and_true, true_and] at h; simp only [h])
  obtain ⟨h36, e36, o36⟩ := ent_ex (fun q : VD => True) (fun q => ([(q).pv], I (wid (q)))) (fun a b h => by simp only [List.cons.injEq, ints_inj, cells_inj, vars_inj, VD_inj, St_inj, PV.int.injEq, and_true, true_and] at h; simp only [h])
  have hT : TabOk Try.prog X.G [(19, h19), (38, h38), (54, h54), (36, h36)] := tk (fun l r e => by obtain ⟨a, ha, rfl, rfl⟩ := o19 l r e; exact ok19 (a.1) (a.2) ha) (tk (fun l r e => by obtain ⟨a, ha, rfl, rfl⟩ := o38 l r e; exact ok38 (a.1) (a.2) ha) (tk (fun l r e => by obtain ⟨a, ha, rfl, rfl⟩ := o54 l r e; exact ok54 (a)) (tk (fun l r e => by obtain ⟨a, ha, rfl, rfl⟩ := o36 l r e; exact ok36 (a)) tn)))
  refine ⟨(tab X.sh [(19, h19), (38, h38), (54, h54), (36, h36)] []).iso, orcK hT, fun a b hp => e19 (a, b) hp, fun a b hp => e38 (a, b) hp, fun v  => e54 v trivial, fun v  => e36 v trivial⟩
def hd37 (a : List (List Int)) (b : List (List Int)) (i : Nat) : PS := ⟨⟨32, [(17, .int .i64 ((i : Nat) : Int)), (2, .fn 38 []), (1, cells b), (15, cells a), (16, .int .i64 (List.length a : Int))]⟩, []⟩
def en37 (a : List (List Int)) (b : List (List Int)) : PS := ⟨⟨32, []⟩, []⟩
theorem lp37 (iso : Nat → List PV → Option PV) (hC : OrcOk Try.prog X.G ⟨iso, no_shr, ownS X.sh, []⟩) (e38 : ∀ (a : List Int) (b : List Int), a.length ≤ BB → iso 38 [ints a, ints b] = some (.bool (decide (a = b))))  (a : List (List Int)) (b : List (List Int)) (hl : a.length = b.length) (ha : a.length ≤ BB) (hx : ∀ x ∈ a, x.length ≤ BB) : ((∀ j, j < a.length → decide (a.getD j default = b.getD j default) = true) → LoopOk Try.prog X.G 0 (lpB Try.f37 4) (hd37 a b 0) (.exit 0) (en37 a b)) ∧ (∀ j, j < a.length → decide (a.getD j default = b.getD j default) = false → (∀ k, k < j → decide (a.getD k default = b.getD k default) = true) → LoopOk Try.prog X.G 0 (lpB Try.f37 4) (hd37 a b 0) .ret ⟨⟨32, [(6, .bool false)]⟩, []⟩) := by
  refine loop_first (S := hd37 a b) (c := fun i => decide (a.getD i default = b.getD i default)) (e1 := fun i => (.ret, ⟨⟨32, [(6, .bool false)]⟩, []⟩)) (e2 := (.exit 0, en37 a b)) (fun i hi hc e s' nx => ?_) (fun i hi hc => ?_) ?_
  · refine round_ok env.mixed hC (by kernel_rfl) (r37 iso a b i) ?_
    simp only [Holds, Pv.Next]
    have hy : (a.getD i default).length ≤ BB := getD_all (p := fun x : List Int => x.length ≤ BB) hx (Nat.zero_le _)
    rw [BB_eq] at ha
    try simp only [decide_eq_true_eq, decide_eq_false_iff_not] at hc
    refine ⟨fun h0 => ?_, fun h0 => ?_⟩
    · have g0 := of_decide_eq_true h0
      try simp only [List.length_map] at g0
      refine ⟨?_, ?_⟩
      · exact px25 (by omega)
      refine ⟨?_, ?_⟩
      · exact px25 (by omega)
      refine ⟨fun h1 => ?_, fun h1 => ?_⟩
      · have g1 := of_decide_eq_true h1
        try simp only [List.length_map] at g1
        refine ⟨?_, ?_⟩
        · (exact pcallv_iso rfl rfl (by rw [← h1]; exact e38 _ _ hy))
        refine ⟨?_, ?_⟩
        · exact ⟨trivial, (by trivial), ⟨(by exact VW.int (wsucc (by omega))), (by exact VW.fn .nil), (by exact VW.lst rfl rfl), (by exact VW.lst rfl rfl), (by exact VW.int rfl), trivial⟩, trivial⟩
        exact nx
      · have g1 := of_decide_eq_false h1
        try simp only [List.length_map] at g1
        refine ⟨?_, ?_⟩
        · (exact pcallv_iso rfl rfl (by rw [← h1]; exact e38 _ _ hy))
        refine ⟨by trivial, ?_⟩
        refine ⟨?_, ?_⟩
        · exact ⟨trivial, (by trivial), ⟨(by exact VW.bool rfl), trivial⟩, trivial⟩
        trivial
    · have g0 := of_decide_eq_false h0
      try simp only [List.length_map] at g0
      refine ⟨by trivial, ?_⟩
      refine ⟨?_, ?_⟩
      · exact ⟨trivial, (by trivial), trivial, trivial⟩
      (omega)
  · refine round_ok env.mixed hC (by kernel_rfl) (r37 iso a b i) ?_
    simp only [Holds, Pv.Next]
    have hy : (a.getD i default).length ≤ BB := getD_all (p := fun x : List Int => x.length ≤ BB) hx (Nat.zero_le _)
    rw [BB_eq] at ha
    try simp only [decide_eq_true_eq, decide_eq_false_iff_not] at hc
    refine ⟨fun h0 => ?_, fun h0 => ?_⟩
    · have g0 := of_decide_eq_true h0
      try simp only [List.length_map] at g0
      refine ⟨?_, ?_⟩
      · exact px25 (by omega)
      refine ⟨?_, ?_⟩
      · exact px25 (by omega)
      refine ⟨fun h1 => ?_, fun h1 => ?_⟩
      · have g1 := of_decide_eq_true h1
        try simp only [List.length_map] at g1
        refine ⟨?_, ?_⟩
        · (exact pcallv_iso rfl rfl (by rw [← h1]; exact e38 _ _ hy))
        refine ⟨?_, ?_⟩
        · exact ⟨trivial, (by trivial), ⟨(by exact VW.int (wsucc (by omega))), (by exact VW.fn .nil), (by exact VW.lst rfl rfl), (by exact VW.lst rfl rfl), (by exact VW.int rfl), trivial⟩, trivial⟩
        (contradiction)
      · have g1 := of_decide_eq_false h1
        try simp only [List.length_map] at g1
        refine ⟨?_, ?_⟩
        · (exact pcallv_iso rfl rfl (by rw [← h1]; exact e38 _ _ hy))
        refine ⟨by trivial, ?_⟩
        refine ⟨?_, ?_⟩
        · exact ⟨trivial, (by trivial), ⟨(by exact VW.bool rfl), trivial⟩, trivial⟩
        trivial
    · have g0 := of_decide_eq_false h0
      try simp only [List.length_map] at g0
      refine ⟨by trivial, ?_⟩
      refine ⟨?_, ?_⟩
      · exact ⟨trivial, (by trivial), trivial, trivial⟩
      (omega)
  · refine round_ok env.mixed hC (by kernel_rfl) (r37 iso a b (a.length)) ?_
    simp only [Holds, Pv.Next]
    have hc : True := trivial
    have hy : (a.getD (a.length) default).length ≤ BB := getD_all (p := fun x : List Int => x.length ≤ BB) hx (Nat.zero_le _)
    rw [BB_eq] at ha
    try simp only [decide_eq_true_eq, decide_eq_false_iff_not] at hc
    refine ⟨fun h0 => ?_, fun h0 => ?_⟩
    · have g0 := of_decide_eq_true h0
      try simp only [List.length_map] at g0
      refine ⟨?_, ?_⟩
      · exact px25 (by omega)
      refine ⟨?_, ?_⟩
      · exact px25 (by omega)
      refine ⟨fun h1 => ?_, fun h1 => ?_⟩
      · have g1 := of_decide_eq_true h1
        try simp only [List.length_map] at g1
        refine ⟨?_, ?_⟩
        · (exact pcallv_iso rfl rfl (by rw [← h1]; exact e38 _ _ hy))
        refine ⟨?_, ?_⟩
        · exact ⟨trivial, (by trivial), ⟨(by exact VW.int (wsucc (by omega))), (by exact VW.fn .nil), (by exact VW.lst rfl rfl), (by exact VW.lst rfl rfl), (by exact VW.int rfl), trivial⟩, trivial⟩
        (omega)
      · have g1 := of_decide_eq_false h1
        try simp only [List.length_map] at g1
        refine ⟨?_, ?_⟩
        · (exact pcallv_iso rfl rfl (by rw [← h1]; exact e38 _ _ hy))
        refine ⟨by trivial, ?_⟩
        refine ⟨?_, ?_⟩
        · exact ⟨trivial, (by trivial), ⟨(by exact VW.bool rfl), trivial⟩, trivial⟩
        (omega)
    · have g0 := of_decide_eq_false h0
      try simp only [List.length_map] at g0
      refine ⟨by trivial, ?_⟩
      refine ⟨?_, ?_⟩
      · exact ⟨trivial, (by trivial), trivial, trivial⟩
      exact ⟨trivial, rfl⟩
theorem ok37 (a : List (List Int)) (b : List (List Int)) (ha : a.length ≤ BB) (hx : ∀ x ∈ a, x.length ≤ BB) : Ok Try.prog X.G 37 [cells a, cells b, .fn 38 []] (.bool (decide (a = b))) := by
  obtain ⟨iso, hC, e19, e38, e54, e36⟩ := la1
  by_cases he : ∀ j, j < a.length → decide (a.getD j default = b.getD j default) = true
  · refine wok env hC fd37 (t37a iso a b) ?_ hhC
    simp only [Holds]
    refine ⟨fun h0 => ?_, fun h0 => ?_⟩
    · have g0 := bne_iff_ne.1 h0
      try simp only [List.length_map] at g0
      (exact fin_b (Eq.symm (Bool.eq_false_iff.2 (fun h => by have q := (eqL default).1 h; omega))))
    · have g0 := bne_eq_false_iff_eq.1 h0
      try simp only [List.length_map] at g0
      refine ⟨?_, ?_⟩
      · exact ⟨trivial, (by trivial), ⟨(by exact VW.int rfl), (by exact VW.fn .nil), (by exact VW.lst rfl rfl), (by exact VW.lst rfl rfl), (by exact VW.int (by simp)), trivial⟩, trivial⟩
      refine ⟨?_, ?_⟩
      · exact (lp37 iso hC e38 a b (by omega) ha hx).1 he
      exact fin_b (Eq.symm ((eqL default).2 ⟨by omega, he⟩))
  · obtain ⟨j, j1, j2, j3⟩ := first_false he
    refine wok env hC fd37 (t37b iso a b j) ?_ hhC
    simp only [Holds]
    refine ⟨fun h0 => ?_, fun h0 => ?_⟩
    · have g0 := bne_iff_ne.1 h0
      try simp only [List.length_map] at g0
      (exact fin_b (Eq.symm (Bool.eq_false_iff.2 (fun h => by have q := (eqL default).1 h; omega))))
    · have g0 := bne_eq_false_iff_eq.1 h0
      try simp only [List.length_map] at g0
      refine ⟨?_, ?_⟩
      · exact ⟨trivial, (by trivial), ⟨(by exact VW.int rfl), (by exact VW.fn .nil), (by exact VW.lst rfl rfl), (by exact VW.lst rfl rfl), (by exact VW.int (by simp)), trivial⟩, trivial⟩
      refine ⟨?_, ?_⟩
      · exact (lp37 iso hC e38 a b (by omega) ha hx).2 j j1 j2 j3
      (exact fin_b (Eq.symm (Bool.eq_false_iff.2 (fun h => by have q := (eqL default).1 h; (simp_all)))))
structure Sm (s : St) : Prop where
  a : s.c.length ≤ BB
  b : ∀ x ∈ s.c, x.length ≤ BB
  c : s.i.length ≤ BB
  d : s.o.length ≤ BB
theorem St_eq {a b : St} : decide (a = b) = true ↔ a.c.length = b.c.length ∧ a.i = b.i ∧ a.o = b.o ∧ ∀ j, j < a.c.length → decide (a.c.getD j default = b.c.getD j default) = true := by
  obtain ⟨x, y, z⟩ := a
  obtain ⟨x', y', z'⟩ := b
  have := eqL (default : List Int) (a := x) (b := x')
  simp only [decide_eq_true_eq, St.mk.injEq] at this ⊢
  rw [this]
  constructor
  · rintro ⟨⟨h1, h2⟩, h3, h4⟩; exact ⟨h1, h3, h4, h2⟩
  · rintro ⟨h1, h2, h3, h4⟩; exact ⟨⟨h1, h4⟩, h2, h3⟩
def hd16 (a : St) (b : St) (i : Nat) : PS := ⟨⟨48, [(5, .int .i64 ((i : Nat) : Int)), (3, .cptr (St.cs b)), (2, .cptr (St.cs a))]⟩, []⟩
def en16 (a : St) (b : St) : PS := ⟨⟨48, []⟩, []⟩
theorem lp16 (iso : Nat → List PV → Option PV) (hC : OrcOk Try.prog X.G ⟨iso, no_shr, ownS X.sh, []⟩) (e19 : ∀ (a : List Int) (b : List Int), a.length ≤ BB → iso 19 [ints a, ints b] = some (.bool (decide (a = b))))  (a : St) (b : St) (hl : a.c.length = b.c.length) (hs : Sm a) : ((∀ j, j < a.c.length → decide (a.c.getD j default = b.c.getD j default) = true) → LoopOk Try.prog X.G 0 (lpB Try.f16 4) (hd16 a b 0) (.exit 0) (en16 a b)) ∧ (∀ j, j < a.c.length → decide (a.c.getD j default = b.c.getD j default) = false → (∀ k, k < j → decide (a.c.getD k default = b.c.getD k default) = true) → LoopOk Try.prog X.G 0 (lpB Try.f16 4) (hd16 a b 0) .ret ⟨⟨48, [(4, .bool false)]⟩, []⟩) := by
  refine loop_first (S := hd16 a b) (c := fun i => decide (a.c.getD i default = b.c.getD i default)) (e1 := fun i => (.ret, ⟨⟨48, [(4, .bool false)]⟩, []⟩)) (e2 := (.exit 0, en16 a b)) (fun i hi hc e s' nx => ?_) (fun i hi hc => ?_) ?_
  · refine round_ok env.mixed hC (by kernel_rfl) (r16 iso a b i) ?_
    simp only [Holds, Pv.Next]
    have hy : (a.c.getD i default).length ≤ BB := getD_all (p := fun x : List Int => x.length ≤ BB) hs.b (Nat.zero_le _)
    have ha := hs.a
    rw [BB_eq] at ha
    try simp only [decide_eq_true_eq, decide_eq_false_iff_not] at hc
    refine ⟨fun h0 => ?_, fun h0 => ?_⟩
    · have g0 := of_decide_eq_true h0
      try simp only [List.length_map] at g0
      refine ⟨?_, ?_⟩
      · exact px25 (by omega)
      refine ⟨?_, ?_⟩
      · exact px25 (by omega)
      refine ⟨fun h1 => ?_, fun h1 => ?_⟩
      · have g1 := of_decide_eq_true h1
        try simp only [List.length_map] at g1
        refine ⟨?_, ?_⟩
        · (exact pcallD_iso rfl rfl (by rw [← h1]; exact e19 _ _ hy))
        refine ⟨?_, ?_⟩
        · exact ⟨trivial, (by trivial), ⟨(by exact VW.int (wsucc (by omega))), (by exact VW.cptr rfl), (by exact VW.cptr rfl), trivial⟩, trivial⟩
        exact nx
      · have g1 := of_decide_eq_false h1
        try simp only [List.length_map] at g1
        refine ⟨?_, ?_⟩
        · (exact pcallD_iso rfl rfl (by rw [← h1]; exact e19 _ _ hy))
        refine ⟨by trivial, ?_⟩
        refine ⟨?_, ?_⟩
        · exact ⟨trivial, (by trivial), ⟨(by exact VW.bool rfl), trivial⟩, trivial⟩
        trivial
    · have g0 := of_decide_eq_false h0
      try simp only [List.length_map] at g0
      refine ⟨by trivial, ?_⟩
      refine ⟨?_, ?_⟩
      · exact ⟨trivial, (by trivial), trivial, trivial⟩
      (omega)
  · refine round_ok env.mixed hC (by kernel_rfl) (r16 iso a b i) ?_
    simp only [Holds, Pv.Next]
    have hy : (a.c.getD i default).length ≤ BB := getD_all (p := fun x : List Int => x.length ≤ BB) hs.b (Nat.zero_le _)
    have ha := hs.a
    rw [BB_eq] at ha
    try simp only [decide_eq_true_eq, decide_eq_false_iff_not] at hc
    refine ⟨fun h0 => ?_, fun h0 => ?_⟩
    · have g0 := of_decide_eq_true h0
      try simp only [List.length_map] at g0
      refine ⟨?_, ?_⟩
      · exact px25 (by omega)
      refine ⟨?_, ?_⟩
      · exact px25 (by omega)
      refine ⟨fun h1 => ?_, fun h1 => ?_⟩
      · have g1 := of_decide_eq_true h1
        try simp only [List.length_map] at g1
        refine ⟨?_, ?_⟩
        · (exact pcallD_iso rfl rfl (by rw [← h1]; exact e19 _ _ hy))
        refine ⟨?_, ?_⟩
        · exact ⟨trivial, (by trivial), ⟨(by exact VW.int (wsucc (by omega))), (by exact VW.cptr rfl), (by exact VW.cptr rfl), trivial⟩, trivial⟩
        (contradiction)
      · have g1 := of_decide_eq_false h1
        try simp only [List.length_map] at g1
        refine ⟨?_, ?_⟩
        · (exact pcallD_iso rfl rfl (by rw [← h1]; exact e19 _ _ hy))
        refine ⟨by trivial, ?_⟩
        refine ⟨?_, ?_⟩
        · exact ⟨trivial, (by trivial), ⟨(by exact VW.bool rfl), trivial⟩, trivial⟩
        trivial
    · have g0 := of_decide_eq_false h0
      try simp only [List.length_map] at g0
      refine ⟨by trivial, ?_⟩
      refine ⟨?_, ?_⟩
      · exact ⟨trivial, (by trivial), trivial, trivial⟩
      (omega)
  · refine round_ok env.mixed hC (by kernel_rfl) (r16 iso a b (a.c.length)) ?_
    simp only [Holds, Pv.Next]
    have hc : True := trivial
    have hy : (a.c.getD (a.c.length) default).length ≤ BB := getD_all (p := fun x : List Int => x.length ≤ BB) hs.b (Nat.zero_le _)
    have ha := hs.a
    rw [BB_eq] at ha
    try simp only [decide_eq_true_eq, decide_eq_false_iff_not] at hc
    refine ⟨fun h0 => ?_, fun h0 => ?_⟩
    · have g0 := of_decide_eq_true h0
      try simp only [List.length_map] at g0
      refine ⟨?_, ?_⟩
      · exact px25 (by omega)
      refine ⟨?_, ?_⟩
      · exact px25 (by omega)
      refine ⟨fun h1 => ?_, fun h1 => ?_⟩
      · have g1 := of_decide_eq_true h1
        try simp only [List.length_map] at g1
        refine ⟨?_, ?_⟩
        · (exact pcallD_iso rfl rfl (by rw [← h1]; exact e19 _ _ hy))
        refine ⟨?_, ?_⟩
        · exact ⟨trivial, (by trivial), ⟨(by exact VW.int (wsucc (by omega))), (by exact VW.cptr rfl), (by exact VW.cptr rfl), trivial⟩, trivial⟩
        (omega)
      · have g1 := of_decide_eq_false h1
        try simp only [List.length_map] at g1
        refine ⟨?_, ?_⟩
        · (exact pcallD_iso rfl rfl (by rw [← h1]; exact e19 _ _ hy))
        refine ⟨by trivial, ?_⟩
        refine ⟨?_, ?_⟩
        · exact ⟨trivial, (by trivial), ⟨(by exact VW.bool rfl), trivial⟩, trivial⟩
        (omega)
    · have g0 := of_decide_eq_false h0
      try simp only [List.length_map] at g0
      refine ⟨by trivial, ?_⟩
      refine ⟨?_, ?_⟩
      · exact ⟨trivial, (by trivial), trivial, trivial⟩
      exact ⟨trivial, rfl⟩
theorem ok16 (a : St) (b : St) (hs : Sm a) : Ok Try.prog X.G 16 [a.pv, b.pv] (.bool (decide (a = b))) := by
  obtain ⟨iso, hC, e19, e38, e54, e36⟩ := la1
  by_cases he : ∀ j, j < a.c.length → decide (a.c.getD j default = b.c.getD j default) = true
  · refine wok env hC fd16 (t16a iso a b) ?_ hhC
    simp only [Holds]
    refine ⟨fun h0 => ?_, fun h0 => ?_⟩
    · have g0 := bne_iff_ne.1 h0
      try simp only [List.length_map] at g0
      (exact fin_b (Eq.symm (Bool.eq_false_iff.2 (fun h => by have q := St_eq.1 h; omega))))
    · have g0 := bne_eq_false_iff_eq.1 h0
      try simp only [List.length_map] at g0
      refine ⟨fun h1 => ?_, fun h1 => ?_⟩
      · have g1 := of_decide_eq_true h1
        try simp only [List.length_map] at g1
        refine ⟨?_, ?_⟩
        · (exact pcallv_iso rfl rfl (by rw [← h1]; exact e19 _ _ (by exact hs.c)))
        refine ⟨fun h2 => ?_, fun h2 => ?_⟩
        · have g2 := of_decide_eq_true h2
          try simp only [List.length_map] at g2
          refine ⟨?_, ?_⟩
          · (exact pcallv_iso rfl rfl (by rw [← h2]; exact e19 _ _ (by exact hs.d)))
          refine ⟨?_, ?_⟩
          · exact ⟨trivial, (by trivial), ⟨(by exact VW.int rfl), (by exact VW.cptr rfl), (by exact VW.cptr rfl), trivial⟩, trivial⟩
          refine ⟨?_, ?_⟩
          · exact (lp16 iso hC e19 a b (by omega) hs).1 he
          exact fin_b (Eq.symm (St_eq.2 ⟨by omega, by assumption, by assumption, he⟩))
        · have g2 := of_decide_eq_false h2
          try simp only [List.length_map] at g2
          refine ⟨?_, ?_⟩
          · (exact pcallv_iso rfl rfl (by rw [← h2]; exact e19 _ _ (by exact hs.d)))
          (exact fin_b (Eq.symm (Bool.eq_false_iff.2 (fun h => by have q := St_eq.1 h; (simp_all)))))
      · have g1 := of_decide_eq_false h1
        try simp only [List.length_map] at g1
        refine ⟨?_, ?_⟩
        · (exact pcallv_iso rfl rfl (by rw [← h1]; exact e19 _ _ (by exact hs.c)))
        (exact fin_b (Eq.symm (Bool.eq_false_iff.2 (fun h => by have q := St_eq.1 h; (simp_all)))))
  · obtain ⟨j, j1, j2, j3⟩ := first_false he
    refine wok env hC fd16 (t16b iso a b j) ?_ hhC
    simp only [Holds]
    refine ⟨fun h0 => ?_, fun h0 => ?_⟩
    · have g0 := bne_iff_ne.1 h0
      try simp only [List.length_map] at g0
      (exact fin_b (Eq.symm (Bool.eq_false_iff.2 (fun h => by have q := St_eq.1 h; omega))))
    · have g0 := bne_eq_false_iff_eq.1 h0
      try simp only [List.length_map] at g0
      refine ⟨fun h1 => ?_, fun h1 => ?_⟩
      · have g1 := of_decide_eq_true h1
        try simp only [List.length_map] at g1
        refine ⟨?_, ?_⟩
        · (exact pcallv_iso rfl rfl (by rw [← h1]; exact e19 _ _ (by exact hs.c)))
        refine ⟨fun h2 => ?_, fun h2 => ?_⟩
        · have g2 := of_decide_eq_true h2
          try simp only [List.length_map] at g2
          refine ⟨?_, ?_⟩
          · (exact pcallv_iso rfl rfl (by rw [← h2]; exact e19 _ _ (by exact hs.d)))
          refine ⟨?_, ?_⟩
          · exact ⟨trivial, (by trivial), ⟨(by exact VW.int rfl), (by exact VW.cptr rfl), (by exact VW.cptr rfl), trivial⟩, trivial⟩
          refine ⟨?_, ?_⟩
          · exact (lp16 iso hC e19 a b (by omega) hs).2 j j1 j2 j3
          (exact fin_b (Eq.symm (Bool.eq_false_iff.2 (fun h => by have q := St_eq.1 h; (simp_all)))))
        · have g2 := of_decide_eq_false h2
          try simp only [List.length_map] at g2
          refine ⟨?_, ?_⟩
          · (exact pcallv_iso rfl rfl (by rw [← h2]; exact e19 _ _ (by exact hs.d)))
          (exact fin_b (Eq.symm (Bool.eq_false_iff.2 (fun h => by have q := St_eq.1 h; (simp_all)))))
      · have g1 := of_decide_eq_false h1
        try simp only [List.length_map] at g1
        refine ⟨?_, ?_⟩
        · (exact pcallv_iso rfl rfl (by rw [← h1]; exact e19 _ _ (by exact hs.c)))
        (exact fin_b (Eq.symm (Bool.eq_false_iff.2 (fun h => by have q := St_eq.1 h; (simp_all)))))
def hd66 (l : List VD) (i : Nat) : PS := ⟨⟨19, [(8, .int .i64 ((i : Nat) : Int)), (0, vars l), (1, .fn 54 []), (7, .int .i64 (List.length l : Int))]⟩, []⟩
def en66 (l : List VD) : PS := ⟨⟨19, []⟩, []⟩
theorem lp66 (iso : Nat → List PV → Option PV) (hC : OrcOk Try.prog X.G ⟨iso, no_shr, ownS X.sh, []⟩) (e54 : ∀ (v : VD), iso 54 [v.pv] = some (.bool (badV v)))  (l : List VD) (hl : l.length ≤ BB) : ((∀ j, j < l.length → (!badV (l.getD j default)) = true) → LoopOk Try.prog X.G 0 (lpB Try.f66 2) (hd66 l 0) (.exit 0) (en66 l)) ∧ (∀ j, j < l.length → (!badV (l.getD j default)) = false → (∀ k, k < j → (!badV (l.getD k default)) = true) → LoopOk Try.prog X.G 0 (lpB Try.f66 2) (hd66 l 0) .ret ⟨⟨19, [(4, .int .i64 ((j : Nat) : Int))]⟩, []⟩) := by
  refine loop_first (S := hd66 l) (c := fun i => (!badV (l.getD i default))) (e1 := fun i => (.ret, ⟨⟨19, [(4, .int .i64 ((i : Nat) : Int))]⟩, []⟩)) (e2 := (.exit 0, en66 l)) (fun i hi hc e s' nx => ?_) (fun i hi hc => ?_) ?_
  · refine round_ok env.mixed hC (by kernel_rfl) (r66 iso l i) ?_
    simp only [Holds, Pv.Next]
    rw [BB_eq] at hl
    try simp only [Bool.not_eq_true', Bool.not_eq_false'] at hc
    refine ⟨fun h0 => ?_, fun h0 => ?_⟩
    · have g0 := of_decide_eq_true h0
      try simp only [List.length_map] at g0
      refine ⟨?_, ?_⟩
      · exact px22 (by omega)
      refine ⟨fun h1 => ?_, fun h1 => ?_⟩
      · have g1 := h1
        refine ⟨?_, ?_⟩
        · (exact pcallv_iso rfl rfl (by rw [← h1]; exact e54 _))
        refine ⟨by trivial, ?_⟩
        refine ⟨?_, ?_⟩
        · exact ⟨trivial, (by trivial), ⟨(by exact VW.int rfl), trivial⟩, trivial⟩
        ((simp_all; done))
      · have g1 := h1
        refine ⟨?_, ?_⟩
        · (exact pcallv_iso rfl rfl (by rw [← h1]; exact e54 _))
        refine ⟨?_, ?_⟩
        · exact ⟨trivial, (by trivial), ⟨(by exact VW.int (wsucc (by omega))), (by exact VW.lst rfl rfl), (by exact VW.fn .nil), (by exact VW.int rfl), trivial⟩, trivial⟩
        exact nx
    · have g0 := of_decide_eq_false h0
      try simp only [List.length_map] at g0
      refine ⟨by trivial, ?_⟩
      refine ⟨?_, ?_⟩
      · exact ⟨trivial, (by trivial), trivial, trivial⟩
      (omega)
  · refine round_ok env.mixed hC (by kernel_rfl) (r66 iso l i) ?_
    simp only [Holds, Pv.Next]
    rw [BB_eq] at hl
    try simp only [Bool.not_eq_true', Bool.not_eq_false'] at hc
    refine ⟨fun h0 => ?_, fun h0 => ?_⟩
    · have g0 := of_decide_eq_true h0
      try simp only [List.length_map] at g0
      refine ⟨?_, ?_⟩
      · exact px22 (by omega)
      refine ⟨fun h1 => ?_, fun h1 => ?_⟩
      · have g1 := h1
        refine ⟨?_, ?_⟩
        · (exact pcallv_iso rfl rfl (by rw [← h1]; exact e54 _))
        refine ⟨by trivial, ?_⟩
        refine ⟨?_, ?_⟩
        · exact ⟨trivial, (by trivial), ⟨(by exact VW.int rfl), trivial⟩, trivial⟩
        trivial
      · have g1 := h1
        refine ⟨?_, ?_⟩
        · (exact pcallv_iso rfl rfl (by rw [← h1]; exact e54 _))
        refine ⟨?_, ?_⟩
        · exact ⟨trivial, (by trivial), ⟨(by exact VW.int (wsucc (by omega))), (by exact VW.lst rfl rfl), (by exact VW.fn .nil), (by exact VW.int rfl), trivial⟩, trivial⟩
        ((simp_all; done))
    · have g0 := of_decide_eq_false h0
      try simp only [List.length_map] at g0
      refine ⟨by trivial, ?_⟩
      refine ⟨?_, ?_⟩
      · exact ⟨trivial, (by trivial), trivial, trivial⟩
      (omega)
  · refine round_ok env.mixed hC (by kernel_rfl) (r66 iso l (l.length)) ?_
    simp only [Holds, Pv.Next]
    have hc : True := trivial
    rw [BB_eq] at hl
    try simp only [Bool.not_eq_true', Bool.not_eq_false'] at hc
    refine ⟨fun h0 => ?_, fun h0 => ?_⟩
    · have g0 := of_decide_eq_true h0
      try simp only [List.length_map] at g0
      refine ⟨?_, ?_⟩
      · exact px22 (by omega)
      refine ⟨fun h1 => ?_, fun h1 => ?_⟩
      · have g1 := h1
        refine ⟨?_, ?_⟩
        · (exact pcallv_iso rfl rfl (by rw [← h1]; exact e54 _))
        refine ⟨by trivial, ?_⟩
        refine ⟨?_, ?_⟩
        · exact ⟨trivial, (by trivial), ⟨(by exact VW.int rfl), trivial⟩, trivial⟩
        (omega)
      · have g1 := h1
        refine ⟨?_, ?_⟩
        · (exact pcallv_iso rfl rfl (by rw [← h1]; exact e54 _))
        refine ⟨?_, ?_⟩
        · exact ⟨trivial, (by trivial), ⟨(by exact VW.int (wsucc (by omega))), (by exact VW.lst rfl rfl), (by exact VW.fn .nil), (by exact VW.int rfl), trivial⟩, trivial⟩
        (omega)
    · have g0 := of_decide_eq_false h0
      try simp only [List.length_map] at g0
      refine ⟨by trivial, ?_⟩
      refine ⟨?_, ?_⟩
      · exact ⟨trivial, (by trivial), trivial, trivial⟩
      exact ⟨trivial, rfl⟩
theorem ok66 (l : List VD) (hl : l.length ≤ BB) : Ok Try.prog X.G 66 [vars l, .fn 54 []] (I (ixV l)) := by
  obtain ⟨iso, hC, e19, e38, e54, e36⟩ := la1
  by_cases he : ∀ j, j < l.length → (!badV (l.getD j default)) = true
  · refine wok env hC fd66 (t66a iso l) ?_ hhC
    simp only [Holds]
    refine ⟨?_, ?_⟩
    · exact ⟨trivial, (by trivial), ⟨(by exact VW.int rfl), (by exact VW.lst rfl rfl), (by exact VW.fn .nil), (by exact VW.int (by simp)), trivial⟩, trivial⟩
    refine ⟨?_, ?_⟩
    · exact (lp66 iso hC e54 l hl).1 he
    exact fin_i (ixV_iff.1 he).symm
  · obtain ⟨j, j1, j2, j3⟩ := first_false he
    refine wok env hC fd66 (t66b iso l j) ?_ hhC
    simp only [Holds]
    refine ⟨?_, ?_⟩
    · exact ⟨trivial, (by trivial), ⟨(by exact VW.int rfl), (by exact VW.lst rfl rfl), (by exact VW.fn .nil), (by exact VW.int (by simp)), trivial⟩, trivial⟩
    refine ⟨?_, ?_⟩
    · exact (lp66 iso hC e54 l hl).2 j j1 j2 j3
    exact fin_i (ixV_iff.2 j j1 j2 j3).symm
theorem la2 : ∃ iso : Nat → List PV → Option PV, OrcOk Try.prog X.G ⟨iso, no_shr, ownS X.sh, []⟩ ∧ (∀ (l : List VD), l.length ≤ BB → iso 66 [vars l, .fn 54 []] = some (I (ixV l))) := by
  obtain ⟨h66, e66, o66⟩ := ent_ex (fun q : List VD => (q).length ≤ BB) (fun q => ([vars (q), .fn 54 []], I (ixV (q)))) (fun a b h => by simp only [List.cons.injEq, ints_inj, cells_inj, vars_inj, VD_inj, St_inj, PV.int.injEq, and_true, true_and] at h; simp only [h])
  have hT : TabOk Try.prog X.G [(66, h66)] := tk (fun l r e => by obtain ⟨a, ha, rfl, rfl⟩ := o66 l r e; exact ok66 (a) ha) tn
  refine ⟨(tab X.sh [(66, h66)] []).iso, orcK hT, fun l hp => e66 l hp⟩
theorem ok55 (l : List VD) (hl : l.length ≤ BB) : Ok Try.prog X.G 55 [vars l, .fn 54 []] (.bool (l.any badV)) := by
  obtain ⟨iso, hC, e66⟩ := la2
  refine wok env hC fd55 (t55 iso l) ?_ hhC
  simp only [Holds]
  refine ⟨?_, ?_⟩
  · exact pcallv_iso rfl rfl (e66 _ hl)
  refine ⟨fun h0 => ?_, fun h0 => ?_⟩
  · have g0 := of_decide_eq_true h0
    try simp only [List.length_map] at g0
    exact fin_b (Eq.symm (ixV_any.2 (by omega)))
  · have g0 := of_decide_eq_false h0
    try simp only [List.length_map] at g0
    (exact fin_b (Eq.symm (Bool.eq_false_iff.2 (fun h => by have := ixV_any.1 h; omega))))
theorem la3 : ∃ iso : Nat → List PV → Option PV, OrcOk Try.prog X.G ⟨iso, no_shr, ownS X.sh, []⟩ ∧ (∀ (l : List VD), l.length ≤ BB → iso 55 [vars l, .fn 54 []] = some (.bool (l.any badV))) := by
  obtain ⟨h55, e55, o55⟩ := ent_ex (fun q : List VD => (q).length ≤ BB) (fun q => ([vars (q), .fn 54 []], .bool ((q).any badV))) (fun a b h => by simp only [List.cons.injEq, ints_inj, cells_inj, vars_inj, VD_inj, St_inj, PV.int.injEq, and_true, true_and] at h; simp only [h])
  have hT : TabOk Try.prog X.G [(55, h55)] := tk (fun l r e => by obtain ⟨a, ha, rfl, rfl⟩ := o55 l r e; exact ok55 (a) ha) tn
  refine ⟨(tab X.sh [(55, h55)] []).iso, orcK hT, fun l hp => e55 l hp⟩
theorem ok34 (l : List VD)  : Ok Try.prog X.G 34 [vars l] (.bool (valV l)) := by
  obtain ⟨iso, hC, e55⟩ := la3
  refine wok env hC fd34 (t34 iso l) ?_ hhC
  simp only [Holds]
  refine ⟨fun h0 => ?_, fun h0 => ?_⟩
  · have g0 := of_decide_eq_true h0
    try simp only [List.length_map] at g0
    refine ⟨fun h1 => ?_, fun h1 => ?_⟩
    · have g1 := h1
      refine ⟨?_, ?_⟩
      · (exact pcallv_iso rfl rfl (by rw [← h1]; exact e55 _ (by rw [BB_eq]; omega)))
      (exact fin_b (Eq.symm (Bool.eq_false_iff.2 (fun h => by have q := valV_iff.1 h; exact absurd (any_iff.2 q.2) (by simp_all)))))
    · have g1 := h1
      refine ⟨?_, ?_⟩
      · (exact pcallv_iso rfl rfl (by rw [← h1]; exact e55 _ (by rw [BB_eq]; omega)))
      exact fin_b (Eq.symm (valV_iff.2 ⟨by omega, any_iff.1 (by assumption)⟩))
  · have g0 := of_decide_eq_false h0
    try simp only [List.length_map] at g0
    (exact fin_b (Eq.symm (Bool.eq_false_iff.2 (fun h => by have q := valV_iff.1 h; omega))))
def hd15 (l : List VD) (i : Nat) : PS := ⟨⟨52, [(3, .int .i64 ((i : Nat) : Int)), (0, vars l)]⟩, []⟩
def en15 (l : List VD) : PS := ⟨⟨52, [(0, vars l)]⟩, []⟩
theorem lp15 (iso : Nat → List PV → Option PV) (hC : OrcOk Try.prog X.G ⟨iso, no_shr, ownS X.sh, []⟩)  (l : List VD) (hl : l.length ≤ BB) : ((∀ j, j < l.length → (!badV (l.getD j default)) = true) → LoopOk Try.prog X.G 0 (lpB Try.f15 2) (hd15 l 0) (.exit 0) (en15 l)) ∧ (∀ j, j < l.length → (!badV (l.getD j default)) = false → (∀ k, k < j → (!badV (l.getD k default)) = true) → LoopOk Try.prog X.G 0 (lpB Try.f15 2) (hd15 l 0) .ret ⟨⟨52, [(2, .bool false)]⟩, []⟩) := by
  refine loop_first (S := hd15 l) (c := fun i => (!badV (l.getD i default))) (e1 := fun i => (.ret, ⟨⟨52, [(2, .bool false)]⟩, []⟩)) (e2 := (.exit 0, en15 l)) (fun i hi hc e s' nx => ?_) (fun i hi hc => ?_) ?_
  · refine round_ok env.mixed hC (by kernel_rfl) (r15 iso l i) ?_
    simp only [Holds, Pv.Next]
    rw [BB_eq] at hl
    try simp only [Bool.not_eq_true', Bool.not_eq_false'] at hc
    try rw [badV_iff] at hc
    try rw [badV_not] at hc
    refine ⟨fun h0 => ?_, fun h0 => ?_⟩
    · have g0 := of_decide_eq_true h0
      try simp only [List.length_map] at g0
      refine ⟨?_, ?_⟩
      · exact px22 (by omega)
      refine ⟨fun h1 => ?_, fun h1 => ?_⟩
      · have g1 := beq_iff_eq.1 h1
        try simp only [List.length_map] at g1
        refine ⟨fun h2 => ?_, fun h2 => ?_⟩
        · have g2 := beq_iff_eq.1 h2
          try simp only [List.length_map] at g2
          refine ⟨fun h3 => ?_, fun h3 => ?_⟩
          · have g3 := beq_iff_eq.1 h3
            try simp only [List.length_map] at g3
            refine ⟨fun h4 => ?_, fun h4 => ?_⟩
            · have g4 := of_decide_eq_true h4
              try simp only [List.length_map] at g4
              refine ⟨fun h5 => ?_, fun h5 => ?_⟩
              · have g5 := of_decide_eq_true h5
                try simp only [List.length_map] at g5
                refine ⟨?_, ?_⟩
                · exact ⟨trivial, (by trivial), ⟨(by exact VW.int (wsucc (by omega))), (by exact VW.lst rfl rfl), trivial⟩, trivial⟩
                exact nx
              · have g5 := of_decide_eq_false h5
                try simp only [List.length_map] at g5
                refine ⟨?_, ?_⟩
                · exact ⟨trivial, (by trivial), ⟨(by exact VW.int (wsucc (by omega))), (by exact VW.lst rfl rfl), trivial⟩, trivial⟩
                exact nx
            · have g4 := of_decide_eq_false h4
              try simp only [List.length_map] at g4
              refine ⟨?_, ?_⟩
              · exact ⟨trivial, (by trivial), ⟨(by exact VW.int (wsucc (by omega))), (by exact VW.lst rfl rfl), trivial⟩, trivial⟩
              exact nx
          · have g3 := beq_eq_false_iff_ne.1 h3
            try simp only [List.length_map] at g3
            refine ⟨?_, ?_⟩
            · exact ⟨trivial, (by trivial), ⟨(by exact VW.int (wsucc (by omega))), (by exact VW.lst rfl rfl), trivial⟩, trivial⟩
            exact nx
        · have g2 := beq_eq_false_iff_ne.1 h2
          try simp only [List.length_map] at g2
          refine ⟨fun h6 => ?_, fun h6 => ?_⟩
          · have g6 := beq_iff_eq.1 h6
            try simp only [List.length_map] at g6
            refine ⟨fun h7 => ?_, fun h7 => ?_⟩
            · have g7 := of_decide_eq_true h7
              try simp only [List.length_map] at g7
              refine ⟨fun h8 => ?_, fun h8 => ?_⟩
              · have g8 := of_decide_eq_true h8
                try simp only [List.length_map] at g8
                refine ⟨?_, ?_⟩
                · exact ⟨trivial, (by trivial), ⟨(by exact VW.int (wsucc (by omega))), (by exact VW.lst rfl rfl), trivial⟩, trivial⟩
                exact nx
              · have g8 := of_decide_eq_false h8
                try simp only [List.length_map] at g8
                refine ⟨by trivial, ?_⟩
                refine ⟨?_, ?_⟩
                · exact ⟨trivial, (by trivial), ⟨(by exact VW.bool rfl), trivial⟩, trivial⟩
                omega
            · have g7 := of_decide_eq_false h7
              try simp only [List.length_map] at g7
              refine ⟨by trivial, ?_⟩
              refine ⟨?_, ?_⟩
              · exact ⟨trivial, (by trivial), ⟨(by exact VW.bool rfl), trivial⟩, trivial⟩
              omega
          · have g6 := beq_eq_false_iff_ne.1 h6
            try simp only [List.length_map] at g6
            refine ⟨by trivial, ?_⟩
            refine ⟨?_, ?_⟩
            · exact ⟨trivial, (by trivial), ⟨(by exact VW.bool rfl), trivial⟩, trivial⟩
            omega
      · have g1 := beq_eq_false_iff_ne.1 h1
        try simp only [List.length_map] at g1
        refine ⟨fun h9 => ?_, fun h9 => ?_⟩
        · have g9 := beq_iff_eq.1 h9
          try simp only [List.length_map] at g9
          refine ⟨fun h10 => ?_, fun h10 => ?_⟩
          · have g10 := beq_iff_eq.1 h10
            try simp only [List.length_map] at g10
            refine ⟨fun h11 => ?_, fun h11 => ?_⟩
            · have g11 := beq_iff_eq.1 h11
              try simp only [List.length_map] at g11
              refine ⟨fun h12 => ?_, fun h12 => ?_⟩
              · have g12 := of_decide_eq_true h12
                try simp only [List.length_map] at g12
                refine ⟨fun h13 => ?_, fun h13 => ?_⟩
                · have g13 := of_decide_eq_true h13
                  try simp only [List.length_map] at g13
                  refine ⟨?_, ?_⟩
                  · exact ⟨trivial, (by trivial), ⟨(by exact VW.int (wsucc (by omega))), (by exact VW.lst rfl rfl), trivial⟩, trivial⟩
                  exact nx
                · have g13 := of_decide_eq_false h13
                  try simp only [List.length_map] at g13
                  refine ⟨?_, ?_⟩
                  · exact ⟨trivial, (by trivial), ⟨(by exact VW.int (wsucc (by omega))), (by exact VW.lst rfl rfl), trivial⟩, trivial⟩
                  exact nx
              · have g12 := of_decide_eq_false h12
                try simp only [List.length_map] at g12
                refine ⟨?_, ?_⟩
                · exact ⟨trivial, (by trivial), ⟨(by exact VW.int (wsucc (by omega))), (by exact VW.lst rfl rfl), trivial⟩, trivial⟩
                exact nx
            · have g11 := beq_eq_false_iff_ne.1 h11
              try simp only [List.length_map] at g11
              refine ⟨?_, ?_⟩
              · exact ⟨trivial, (by trivial), ⟨(by exact VW.int (wsucc (by omega))), (by exact VW.lst rfl rfl), trivial⟩, trivial⟩
              exact nx
          · have g10 := beq_eq_false_iff_ne.1 h10
            try simp only [List.length_map] at g10
            refine ⟨fun h14 => ?_, fun h14 => ?_⟩
            · have g14 := beq_iff_eq.1 h14
              try simp only [List.length_map] at g14
              refine ⟨fun h15 => ?_, fun h15 => ?_⟩
              · have g15 := of_decide_eq_true h15
                try simp only [List.length_map] at g15
                refine ⟨fun h16 => ?_, fun h16 => ?_⟩
                · have g16 := of_decide_eq_true h16
                  try simp only [List.length_map] at g16
                  refine ⟨?_, ?_⟩
                  · exact ⟨trivial, (by trivial), ⟨(by exact VW.int (wsucc (by omega))), (by exact VW.lst rfl rfl), trivial⟩, trivial⟩
                  exact nx
                · have g16 := of_decide_eq_false h16
                  try simp only [List.length_map] at g16
                  refine ⟨by trivial, ?_⟩
                  refine ⟨?_, ?_⟩
                  · exact ⟨trivial, (by trivial), ⟨(by exact VW.bool rfl), trivial⟩, trivial⟩
                  omega
              · have g15 := of_decide_eq_false h15
                try simp only [List.length_map] at g15
                refine ⟨by trivial, ?_⟩
                refine ⟨?_, ?_⟩
                · exact ⟨trivial, (by trivial), ⟨(by exact VW.bool rfl), trivial⟩, trivial⟩
                omega
            · have g14 := beq_eq_false_iff_ne.1 h14
              try simp only [List.length_map] at g14
              refine ⟨by trivial, ?_⟩
              refine ⟨?_, ?_⟩
              · exact ⟨trivial, (by trivial), ⟨(by exact VW.bool rfl), trivial⟩, trivial⟩
              omega
        · have g9 := beq_eq_false_iff_ne.1 h9
          try simp only [List.length_map] at g9
          refine ⟨fun h17 => ?_, fun h17 => ?_⟩
          · have g17 := beq_iff_eq.1 h17
            try simp only [List.length_map] at g17
            refine ⟨fun h18 => ?_, fun h18 => ?_⟩
            · have g18 := of_decide_eq_true h18
              try simp only [List.length_map] at g18
              refine ⟨fun h19 => ?_, fun h19 => ?_⟩
              · have g19 := of_decide_eq_true h19
                try simp only [List.length_map] at g19
                refine ⟨?_, ?_⟩
                · exact ⟨trivial, (by trivial), ⟨(by exact VW.int (wsucc (by omega))), (by exact VW.lst rfl rfl), trivial⟩, trivial⟩
                exact nx
              · have g19 := of_decide_eq_false h19
                try simp only [List.length_map] at g19
                refine ⟨by trivial, ?_⟩
                refine ⟨?_, ?_⟩
                · exact ⟨trivial, (by trivial), ⟨(by exact VW.bool rfl), trivial⟩, trivial⟩
                omega
            · have g18 := of_decide_eq_false h18
              try simp only [List.length_map] at g18
              refine ⟨by trivial, ?_⟩
              refine ⟨?_, ?_⟩
              · exact ⟨trivial, (by trivial), ⟨(by exact VW.bool rfl), trivial⟩, trivial⟩
              omega
          · have g17 := beq_eq_false_iff_ne.1 h17
            try simp only [List.length_map] at g17
            refine ⟨by trivial, ?_⟩
            refine ⟨?_, ?_⟩
            · exact ⟨trivial, (by trivial), ⟨(by exact VW.bool rfl), trivial⟩, trivial⟩
            omega
    · have g0 := of_decide_eq_false h0
      try simp only [List.length_map] at g0
      refine ⟨by trivial, ?_⟩
      refine ⟨?_, ?_⟩
      · exact ⟨trivial, (by trivial), ⟨(by exact VW.lst rfl rfl), trivial⟩, trivial⟩
      omega
  · refine round_ok env.mixed hC (by kernel_rfl) (r15 iso l i) ?_
    simp only [Holds, Pv.Next]
    rw [BB_eq] at hl
    try simp only [Bool.not_eq_true', Bool.not_eq_false'] at hc
    try rw [badV_iff] at hc
    try rw [badV_not] at hc
    refine ⟨fun h0 => ?_, fun h0 => ?_⟩
    · have g0 := of_decide_eq_true h0
      try simp only [List.length_map] at g0
      refine ⟨?_, ?_⟩
      · exact px22 (by omega)
      refine ⟨fun h1 => ?_, fun h1 => ?_⟩
      · have g1 := beq_iff_eq.1 h1
        try simp only [List.length_map] at g1
        refine ⟨fun h2 => ?_, fun h2 => ?_⟩
        · have g2 := beq_iff_eq.1 h2
          try simp only [List.length_map] at g2
          refine ⟨fun h3 => ?_, fun h3 => ?_⟩
          · have g3 := beq_iff_eq.1 h3
            try simp only [List.length_map] at g3
            refine ⟨fun h4 => ?_, fun h4 => ?_⟩
            · have g4 := of_decide_eq_true h4
              try simp only [List.length_map] at g4
              refine ⟨fun h5 => ?_, fun h5 => ?_⟩
              · have g5 := of_decide_eq_true h5
                try simp only [List.length_map] at g5
                refine ⟨?_, ?_⟩
                · exact ⟨trivial, (by trivial), ⟨(by exact VW.int (wsucc (by omega))), (by exact VW.lst rfl rfl), trivial⟩, trivial⟩
                omega
              · have g5 := of_decide_eq_false h5
                try simp only [List.length_map] at g5
                refine ⟨?_, ?_⟩
                · exact ⟨trivial, (by trivial), ⟨(by exact VW.int (wsucc (by omega))), (by exact VW.lst rfl rfl), trivial⟩, trivial⟩
                omega
            · have g4 := of_decide_eq_false h4
              try simp only [List.length_map] at g4
              refine ⟨?_, ?_⟩
              · exact ⟨trivial, (by trivial), ⟨(by exact VW.int (wsucc (by omega))), (by exact VW.lst rfl rfl), trivial⟩, trivial⟩
              omega
          · have g3 := beq_eq_false_iff_ne.1 h3
            try simp only [List.length_map] at g3
            refine ⟨?_, ?_⟩
            · exact ⟨trivial, (by trivial), ⟨(by exact VW.int (wsucc (by omega))), (by exact VW.lst rfl rfl), trivial⟩, trivial⟩
            omega
        · have g2 := beq_eq_false_iff_ne.1 h2
          try simp only [List.length_map] at g2
          refine ⟨fun h6 => ?_, fun h6 => ?_⟩
          · have g6 := beq_iff_eq.1 h6
            try simp only [List.length_map] at g6
            refine ⟨fun h7 => ?_, fun h7 => ?_⟩
            · have g7 := of_decide_eq_true h7
              try simp only [List.length_map] at g7
              refine ⟨fun h8 => ?_, fun h8 => ?_⟩
              · have g8 := of_decide_eq_true h8
                try simp only [List.length_map] at g8
                refine ⟨?_, ?_⟩
                · exact ⟨trivial, (by trivial), ⟨(by exact VW.int (wsucc (by omega))), (by exact VW.lst rfl rfl), trivial⟩, trivial⟩
                omega
              · have g8 := of_decide_eq_false h8
                try simp only [List.length_map] at g8
                refine ⟨by trivial, ?_⟩
                refine ⟨?_, ?_⟩
                · exact ⟨trivial, (by trivial), ⟨(by exact VW.bool rfl), trivial⟩, trivial⟩
                trivial
            · have g7 := of_decide_eq_false h7
              try simp only [List.length_map] at g7
              refine ⟨by trivial, ?_⟩
              refine ⟨?_, ?_⟩
              · exact ⟨trivial, (by trivial), ⟨(by exact VW.bool rfl), trivial⟩, trivial⟩
              trivial
          · have g6 := beq_eq_false_iff_ne.1 h6
            try simp only [List.length_map] at g6
            refine ⟨by trivial, ?_⟩
            refine ⟨?_, ?_⟩
            · exact ⟨trivial, (by trivial), ⟨(by exact VW.bool rfl), trivial⟩, trivial⟩
            trivial
      · have g1 := beq_eq_false_iff_ne.1 h1
        try simp only [List.length_map] at g1
        refine ⟨fun h9 => ?_, fun h9 => ?_⟩
        · have g9 := beq_iff_eq.1 h9
          try simp only [List.length_map] at g9
          refine ⟨fun h10 => ?_, fun h10 => ?_⟩
          · have g10 := beq_iff_eq.1 h10
            try simp only [List.length_map] at g10
            refine ⟨fun h11 => ?_, fun h11 => ?_⟩
            · have g11 := beq_iff_eq.1 h11
              try simp only [List.length_map] at g11
              refine ⟨fun h12 => ?_, fun h12 => ?_⟩
              · have g12 := of_decide_eq_true h12
                try simp only [List.length_map] at g12
                refine ⟨fun h13 => ?_, fun h13 => ?_⟩
                · have g13 := of_decide_eq_true h13
                  try simp only [List.length_map] at g13
                  refine ⟨?_, ?_⟩
                  · exact ⟨trivial, (by trivial), ⟨(by exact VW.int (wsucc (by omega))), (by exact VW.lst rfl rfl), trivial⟩, trivial⟩
                  omega
                · have g13 := of_decide_eq_false h13
                  try simp only [List.length_map] at g13
                  refine ⟨?_, ?_⟩
                  · exact ⟨trivial, (by trivial), ⟨(by exact VW.int (wsucc (by omega))), (by exact VW.lst rfl rfl), trivial⟩, trivial⟩
                  omega
              · have g12 := of_decide_eq_false h12
                try simp only [List.length_map] at g12
                refine ⟨?_, ?_⟩
                · exact ⟨trivial, (by trivial), ⟨(by exact VW.int (wsucc (by omega))), (by exact VW.lst rfl rfl), trivial⟩, trivial⟩
                omega
            · have g11 := beq_eq_false_iff_ne.1 h11
              try simp only [List.length_map] at g11
              refine ⟨?_, ?_⟩
              · exact ⟨trivial, (by trivial), ⟨(by exact VW.int (wsucc (by omega))), (by exact VW.lst rfl rfl), trivial⟩, trivial⟩
              omega
          · have g10 := beq_eq_false_iff_ne.1 h10
            try simp only [List.length_map] at g10
            refine ⟨fun h14 => ?_, fun h14 => ?_⟩
            · have g14 := beq_iff_eq.1 h14
              try simp only [List.length_map] at g14
              refine ⟨fun h15 => ?_, fun h15 => ?_⟩
              · have g15 := of_decide_eq_true h15
                try simp only [List.length_map] at g15
                refine ⟨fun h16 => ?_, fun h16 => ?_⟩
                · have g16 := of_decide_eq_true h16
                  try simp only [List.length_map] at g16
                  refine ⟨?_, ?_⟩
                  · exact ⟨trivial, (by trivial), ⟨(by exact VW.int (wsucc (by omega))), (by exact VW.lst rfl rfl), trivial⟩, trivial⟩
                  omega
                · have g16 := of_decide_eq_false h16
                  try simp only [List.length_map] at g16
                  refine ⟨by trivial, ?_⟩
                  refine ⟨?_, ?_⟩
                  · exact ⟨trivial, (by trivial), ⟨(by exact VW.bool rfl), trivial⟩, trivial⟩
                  trivial
              · have g15 := of_decide_eq_false h15
                try simp only [List.length_map] at g15
                refine ⟨by trivial, ?_⟩
                refine ⟨?_, ?_⟩
                · exact ⟨trivial, (by trivial), ⟨(by exact VW.bool rfl), trivial⟩, trivial⟩
                trivial
            · have g14 := beq_eq_false_iff_ne.1 h14
              try simp only [List.length_map] at g14
              refine ⟨by trivial, ?_⟩
              refine ⟨?_, ?_⟩
              · exact ⟨trivial, (by trivial), ⟨(by exact VW.bool rfl), trivial⟩, trivial⟩
              trivial
        · have g9 := beq_eq_false_iff_ne.1 h9
          try simp only [List.length_map] at g9
          refine ⟨fun h17 => ?_, fun h17 => ?_⟩
          · have g17 := beq_iff_eq.1 h17
            try simp only [List.length_map] at g17
            refine ⟨fun h18 => ?_, fun h18 => ?_⟩
            · have g18 := of_decide_eq_true h18
              try simp only [List.length_map] at g18
              refine ⟨fun h19 => ?_, fun h19 => ?_⟩
              · have g19 := of_decide_eq_true h19
                try simp only [List.length_map] at g19
                refine ⟨?_, ?_⟩
                · exact ⟨trivial, (by trivial), ⟨(by exact VW.int (wsucc (by omega))), (by exact VW.lst rfl rfl), trivial⟩, trivial⟩
                omega
              · have g19 := of_decide_eq_false h19
                try simp only [List.length_map] at g19
                refine ⟨by trivial, ?_⟩
                refine ⟨?_, ?_⟩
                · exact ⟨trivial, (by trivial), ⟨(by exact VW.bool rfl), trivial⟩, trivial⟩
                trivial
            · have g18 := of_decide_eq_false h18
              try simp only [List.length_map] at g18
              refine ⟨by trivial, ?_⟩
              refine ⟨?_, ?_⟩
              · exact ⟨trivial, (by trivial), ⟨(by exact VW.bool rfl), trivial⟩, trivial⟩
              trivial
          · have g17 := beq_eq_false_iff_ne.1 h17
            try simp only [List.length_map] at g17
            refine ⟨by trivial, ?_⟩
            refine ⟨?_, ?_⟩
            · exact ⟨trivial, (by trivial), ⟨(by exact VW.bool rfl), trivial⟩, trivial⟩
            trivial
    · have g0 := of_decide_eq_false h0
      try simp only [List.length_map] at g0
      refine ⟨by trivial, ?_⟩
      refine ⟨?_, ?_⟩
      · exact ⟨trivial, (by trivial), ⟨(by exact VW.lst rfl rfl), trivial⟩, trivial⟩
      omega
  · refine round_ok env.mixed hC (by kernel_rfl) (r15 iso l (l.length)) ?_
    simp only [Holds, Pv.Next]
    have hc : True := trivial
    rw [BB_eq] at hl
    try simp only [Bool.not_eq_true', Bool.not_eq_false'] at hc
    try rw [badV_iff] at hc
    try rw [badV_not] at hc
    refine ⟨fun h0 => ?_, fun h0 => ?_⟩
    · have g0 := of_decide_eq_true h0
      try simp only [List.length_map] at g0
      refine ⟨?_, ?_⟩
      · exact px22 (by omega)
      refine ⟨fun h1 => ?_, fun h1 => ?_⟩
      · have g1 := beq_iff_eq.1 h1
        try simp only [List.length_map] at g1
        refine ⟨fun h2 => ?_, fun h2 => ?_⟩
        · have g2 := beq_iff_eq.1 h2
          try simp only [List.length_map] at g2
          refine ⟨fun h3 => ?_, fun h3 => ?_⟩
          · have g3 := beq_iff_eq.1 h3
            try simp only [List.length_map] at g3
            refine ⟨fun h4 => ?_, fun h4 => ?_⟩
            · have g4 := of_decide_eq_true h4
              try simp only [List.length_map] at g4
              refine ⟨fun h5 => ?_, fun h5 => ?_⟩
              · have g5 := of_decide_eq_true h5
                try simp only [List.length_map] at g5
                refine ⟨?_, ?_⟩
                · exact ⟨trivial, (by trivial), ⟨(by exact VW.int (wsucc (by omega))), (by exact VW.lst rfl rfl), trivial⟩, trivial⟩
                omega
              · have g5 := of_decide_eq_false h5
                try simp only [List.length_map] at g5
                refine ⟨?_, ?_⟩
                · exact ⟨trivial, (by trivial), ⟨(by exact VW.int (wsucc (by omega))), (by exact VW.lst rfl rfl), trivial⟩, trivial⟩
                omega
            · have g4 := of_decide_eq_false h4
              try simp only [List.length_map] at g4
              refine ⟨?_, ?_⟩
              · exact ⟨trivial, (by trivial), ⟨(by exact VW.int (wsucc (by omega))), (by exact VW.lst rfl rfl), trivial⟩, trivial⟩
              omega
          · have g3 := beq_eq_false_iff_ne.1 h3
            try simp only [List.length_map] at g3
            refine ⟨?_, ?_⟩
            · exact ⟨trivial, (by trivial), ⟨(by exact VW.int (wsucc (by omega))), (by exact VW.lst rfl rfl), trivial⟩, trivial⟩
            omega
        · have g2 := beq_eq_false_iff_ne.1 h2
          try simp only [List.length_map] at g2
          refine ⟨fun h6 => ?_, fun h6 => ?_⟩
          · have g6 := beq_iff_eq.1 h6
            try simp only [List.length_map] at g6
            refine ⟨fun h7 => ?_, fun h7 => ?_⟩
            · have g7 := of_decide_eq_true h7
              try simp only [List.length_map] at g7
              refine ⟨fun h8 => ?_, fun h8 => ?_⟩
              · have g8 := of_decide_eq_true h8
                try simp only [List.length_map] at g8
                refine ⟨?_, ?_⟩
                · exact ⟨trivial, (by trivial), ⟨(by exact VW.int (wsucc (by omega))), (by exact VW.lst rfl rfl), trivial⟩, trivial⟩
                omega
              · have g8 := of_decide_eq_false h8
                try simp only [List.length_map] at g8
                refine ⟨by trivial, ?_⟩
                refine ⟨?_, ?_⟩
                · exact ⟨trivial, (by trivial), ⟨(by exact VW.bool rfl), trivial⟩, trivial⟩
                omega
            · have g7 := of_decide_eq_false h7
              try simp only [List.length_map] at g7
              refine ⟨by trivial, ?_⟩
              refine ⟨?_, ?_⟩
              · exact ⟨trivial, (by trivial), ⟨(by exact VW.bool rfl), trivial⟩, trivial⟩
              omega
          · have g6 := beq_eq_false_iff_ne.1 h6
            try simp only [List.length_map] at g6
            refine ⟨by trivial, ?_⟩
            refine ⟨?_, ?_⟩
            · exact ⟨trivial, (by trivial), ⟨(by exact VW.bool rfl), trivial⟩, trivial⟩
            omega
      · have g1 := beq_eq_false_iff_ne.1 h1
        try simp only [List.length_map] at g1
        refine ⟨fun h9 => ?_, fun h9 => ?_⟩
        · have g9 := beq_iff_eq.1 h9
          try simp only [List.length_map] at g9
          refine ⟨fun h10 => ?_, fun h10 => ?_⟩
          · have g10 := beq_iff_eq.1 h10
            try simp only [List.length_map] at g10
            refine ⟨fun h11 => ?_, fun h11 => ?_⟩
            · have g11 := beq_iff_eq.1 h11
              try simp only [List.length_map] at g11
              refine ⟨fun h12 => ?_, fun h12 => ?_⟩
              · have g12 := of_decide_eq_true h12
                try simp only [List.length_map] at g12
                refine ⟨fun h13 => ?_, fun h13 => ?_⟩
                · have g13 := of_decide_eq_true h13
                  try simp only [List.length_map] at g13
                  refine ⟨?_, ?_⟩
                  · exact ⟨trivial, (by trivial), ⟨(by exact VW.int (wsucc (by omega))), (by exact VW.lst rfl rfl), trivial⟩, trivial⟩
                  omega
                · have g13 := of_decide_eq_false h13
                  try simp only [List.length_map] at g13
                  refine ⟨?_, ?_⟩
                  · exact ⟨trivial, (by trivial), ⟨(by exact VW.int (wsucc (by omega))), (by exact VW.lst rfl rfl), trivial⟩, trivial⟩
                  omega
              · have g12 := of_decide_eq_false h12
                try simp only [List.length_map] at g12
                refine ⟨?_, ?_⟩
                · exact ⟨trivial, (by trivial), ⟨(by exact VW.int (wsucc (by omega))), (by exact VW.lst rfl rfl), trivial⟩, trivial⟩
                omega
            · have g11 := beq_eq_false_iff_ne.1 h11
              try simp only [List.length_map] at g11
              refine ⟨?_, ?_⟩
              · exact ⟨trivial, (by trivial), ⟨(by exact VW.int (wsucc (by omega))), (by exact VW.lst rfl rfl), trivial⟩, trivial⟩
              omega
          · have g10 := beq_eq_false_iff_ne.1 h10
            try simp only [List.length_map] at g10
            refine ⟨fun h14 => ?_, fun h14 => ?_⟩
            · have g14 := beq_iff_eq.1 h14
              try simp only [List.length_map] at g14
              refine ⟨fun h15 => ?_, fun h15 => ?_⟩
              · have g15 := of_decide_eq_true h15
                try simp only [List.length_map] at g15
                refine ⟨fun h16 => ?_, fun h16 => ?_⟩
                · have g16 := of_decide_eq_true h16
                  try simp only [List.length_map] at g16
                  refine ⟨?_, ?_⟩
                  · exact ⟨trivial, (by trivial), ⟨(by exact VW.int (wsucc (by omega))), (by exact VW.lst rfl rfl), trivial⟩, trivial⟩
                  omega
                · have g16 := of_decide_eq_false h16
                  try simp only [List.length_map] at g16
                  refine ⟨by trivial, ?_⟩
                  refine ⟨?_, ?_⟩
                  · exact ⟨trivial, (by trivial), ⟨(by exact VW.bool rfl), trivial⟩, trivial⟩
                  omega
              · have g15 := of_decide_eq_false h15
                try simp only [List.length_map] at g15
                refine ⟨by trivial, ?_⟩
                refine ⟨?_, ?_⟩
                · exact ⟨trivial, (by trivial), ⟨(by exact VW.bool rfl), trivial⟩, trivial⟩
                omega
            · have g14 := beq_eq_false_iff_ne.1 h14
              try simp only [List.length_map] at g14
              refine ⟨by trivial, ?_⟩
              refine ⟨?_, ?_⟩
              · exact ⟨trivial, (by trivial), ⟨(by exact VW.bool rfl), trivial⟩, trivial⟩
              omega
        · have g9 := beq_eq_false_iff_ne.1 h9
          try simp only [List.length_map] at g9
          refine ⟨fun h17 => ?_, fun h17 => ?_⟩
          · have g17 := beq_iff_eq.1 h17
            try simp only [List.length_map] at g17
            refine ⟨fun h18 => ?_, fun h18 => ?_⟩
            · have g18 := of_decide_eq_true h18
              try simp only [List.length_map] at g18
              refine ⟨fun h19 => ?_, fun h19 => ?_⟩
              · have g19 := of_decide_eq_true h19
                try simp only [List.length_map] at g19
                refine ⟨?_, ?_⟩
                · exact ⟨trivial, (by trivial), ⟨(by exact VW.int (wsucc (by omega))), (by exact VW.lst rfl rfl), trivial⟩, trivial⟩
                omega
              · have g19 := of_decide_eq_false h19
                try simp only [List.length_map] at g19
                refine ⟨by trivial, ?_⟩
                refine ⟨?_, ?_⟩
                · exact ⟨trivial, (by trivial), ⟨(by exact VW.bool rfl), trivial⟩, trivial⟩
                omega
            · have g18 := of_decide_eq_false h18
              try simp only [List.length_map] at g18
              refine ⟨by trivial, ?_⟩
              refine ⟨?_, ?_⟩
              · exact ⟨trivial, (by trivial), ⟨(by exact VW.bool rfl), trivial⟩, trivial⟩
              omega
          · have g17 := beq_eq_false_iff_ne.1 h17
            try simp only [List.length_map] at g17
            refine ⟨by trivial, ?_⟩
            refine ⟨?_, ?_⟩
            · exact ⟨trivial, (by trivial), ⟨(by exact VW.bool rfl), trivial⟩, trivial⟩
            omega
    · have g0 := of_decide_eq_false h0
      try simp only [List.length_map] at g0
      refine ⟨by trivial, ?_⟩
      refine ⟨?_, ?_⟩
      · exact ⟨trivial, (by trivial), ⟨(by exact VW.lst rfl rfl), trivial⟩, trivial⟩
      exact ⟨trivial, rfl⟩
theorem ok15 (l : List VD) (hl : l.length ≤ BB) : Ok Try.prog X.G 15 [vars l] (.bool (valV l)) := by
  obtain ⟨iso, hC⟩ : ∃ iso : Nat → List PV → Option PV, OrcOk Try.prog X.G ⟨iso, no_shr, ownS X.sh, []⟩ := ⟨_, iso0⟩
  by_cases he : ∀ j, j < l.length → (!badV (l.getD j default)) = true
  · refine wok env hC fd15 (t15a iso l) ?_ hhC
    simp only [Holds]
    refine ⟨?_, ?_⟩
    · exact ⟨trivial, (by trivial), ⟨(by exact VW.int rfl), (by exact VW.lst rfl rfl), trivial⟩, trivial⟩
    refine ⟨?_, ?_⟩
    · exact (lp15 iso hC  l hl).1 he
    refine ⟨fun h0 => ?_, fun h0 => ?_⟩
    · have g0 := of_decide_eq_true h0
      try simp only [List.length_map] at g0
      exact fin_b (Eq.symm (valV_iff.2 ⟨by omega, he⟩))
    · have g0 := of_decide_eq_false h0
      try simp only [List.length_map] at g0
      (exact fin_b (Eq.symm (Bool.eq_false_iff.2 (fun h => by have q := valV_iff.1 h; omega))))
  · obtain ⟨j, j1, j2, j3⟩ := first_false he
    refine wok env hC fd15 (t15b iso l) ?_ hhC
    simp only [Holds]
    refine ⟨?_, ?_⟩
    · exact ⟨trivial, (by trivial), ⟨(by exact VW.int rfl), (by exact VW.lst rfl rfl), trivial⟩, trivial⟩
    refine ⟨?_, ?_⟩
    · exact (lp15 iso hC  l hl).2 j j1 j2 j3
    (exact fin_b (Eq.symm (Bool.eq_false_iff.2 (fun h => by have q := valV_iff.1 h; (simp_all)))))
def hd20 (s : St) (i : Nat) : PS := ⟨⟨34, [(3, .int .i64 ((i : Nat) : Int)), (1, .cptr (St.cs s))]⟩, []⟩
def en20 (s : St) : PS := ⟨⟨34, []⟩, []⟩
theorem lp20 (iso : Nat → List PV → Option PV) (hC : OrcOk Try.prog X.G ⟨iso, no_shr, ownS X.sh, []⟩)  (s : St) (hl : s.c.length ≤ 40) : ((∀ j, j < s.c.length → decide ((s.c.getD j default).length ≤ 60) = true) → LoopOk Try.prog X.G 0 (lpB Try.f20 4) (hd20 s 0) (.exit 0) (en20 s)) ∧ (∀ j, j < s.c.length → decide ((s.c.getD j default).length ≤ 60) = false → (∀ k, k < j → decide ((s.c.getD k default).length ≤ 60) = true) → LoopOk Try.prog X.G 0 (lpB Try.f20 4) (hd20 s 0) .ret ⟨⟨34, [(2, .int .i64 0)]⟩, []⟩) := by
  refine loop_first (S := hd20 s) (c := fun i => decide ((s.c.getD i default).length ≤ 60)) (e1 := fun i => (.ret, ⟨⟨34, [(2, .int .i64 0)]⟩, []⟩)) (e2 := (.exit 0, en20 s)) (fun i hi hc e s' nx => ?_) (fun i hi hc => ?_) ?_
  · refine round_ok env.mixed hC (by kernel_rfl) (r20 iso s i) ?_
    simp only [Holds, Pv.Next]
    try simp only [decide_eq_true_eq, decide_eq_false_iff_not] at hc
    refine ⟨fun h0 => ?_, fun h0 => ?_⟩
    · have g0 := of_decide_eq_true h0
      try simp only [List.length_map] at g0
      refine ⟨?_, ?_⟩
      · exact px25 (by omega)
      refine ⟨fun h1 => ?_, fun h1 => ?_⟩
      · have g1 := of_decide_eq_true h1
        try simp only [List.length_map] at g1
        refine ⟨by trivial, ?_⟩
        refine ⟨?_, ?_⟩
        · exact ⟨trivial, (by trivial), ⟨(by exact VW.int rfl), trivial⟩, trivial⟩
        omega
      · have g1 := of_decide_eq_false h1
        try simp only [List.length_map] at g1
        refine ⟨?_, ?_⟩
        · exact ⟨trivial, (by trivial), ⟨(by exact VW.int (wsucc (by omega))), (by exact VW.cptr rfl), trivial⟩, trivial⟩
        exact nx
    · have g0 := of_decide_eq_false h0
      try simp only [List.length_map] at g0
      refine ⟨by trivial, ?_⟩
      refine ⟨?_, ?_⟩
      · exact ⟨trivial, (by trivial), trivial, trivial⟩
      omega
  · refine round_ok env.mixed hC (by kernel_rfl) (r20 iso s i) ?_
    simp only [Holds, Pv.Next]
    try simp only [decide_eq_true_eq, decide_eq_false_iff_not] at hc
    refine ⟨fun h0 => ?_, fun h0 => ?_⟩
    · have g0 := of_decide_eq_true h0
      try simp only [List.length_map] at g0
      refine ⟨?_, ?_⟩
      · exact px25 (by omega)
      refine ⟨fun h1 => ?_, fun h1 => ?_⟩
      · have g1 := of_decide_eq_true h1
        try simp only [List.length_map] at g1
        refine ⟨by trivial, ?_⟩
        refine ⟨?_, ?_⟩
        · exact ⟨trivial, (by trivial), ⟨(by exact VW.int rfl), trivial⟩, trivial⟩
        trivial
      · have g1 := of_decide_eq_false h1
        try simp only [List.length_map] at g1
        refine ⟨?_, ?_⟩
        · exact ⟨trivial, (by trivial), ⟨(by exact VW.int (wsucc (by omega))), (by exact VW.cptr rfl), trivial⟩, trivial⟩
        omega
    · have g0 := of_decide_eq_false h0
      try simp only [List.length_map] at g0
      refine ⟨by trivial, ?_⟩
      refine ⟨?_, ?_⟩
      · exact ⟨trivial, (by trivial), trivial, trivial⟩
      omega
  · refine round_ok env.mixed hC (by kernel_rfl) (r20 iso s (s.c.length)) ?_
    simp only [Holds, Pv.Next]
    have hc : True := trivial
    try simp only [decide_eq_true_eq, decide_eq_false_iff_not] at hc
    refine ⟨fun h0 => ?_, fun h0 => ?_⟩
    · have g0 := of_decide_eq_true h0
      try simp only [List.length_map] at g0
      refine ⟨?_, ?_⟩
      · exact px25 (by omega)
      refine ⟨fun h1 => ?_, fun h1 => ?_⟩
      · have g1 := of_decide_eq_true h1
        try simp only [List.length_map] at g1
        refine ⟨by trivial, ?_⟩
        refine ⟨?_, ?_⟩
        · exact ⟨trivial, (by trivial), ⟨(by exact VW.int rfl), trivial⟩, trivial⟩
        omega
      · have g1 := of_decide_eq_false h1
        try simp only [List.length_map] at g1
        refine ⟨?_, ?_⟩
        · exact ⟨trivial, (by trivial), ⟨(by exact VW.int (wsucc (by omega))), (by exact VW.cptr rfl), trivial⟩, trivial⟩
        omega
    · have g0 := of_decide_eq_false h0
      try simp only [List.length_map] at g0
      refine ⟨by trivial, ?_⟩
      refine ⟨?_, ?_⟩
      · exact ⟨trivial, (by trivial), trivial, trivial⟩
      exact ⟨trivial, rfl⟩
end Go.Proofs.Ytmkpdbofhpffaaa
