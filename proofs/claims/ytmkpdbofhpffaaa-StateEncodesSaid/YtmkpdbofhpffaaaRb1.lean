/- Functions of this stage, by what they answer. -/
import Derived.Test.YtmkpdbofhpffaaaRb
namespace Go.Proofs.Ytmkpdbofhpffaaa
open Go.Proofs.Ytmkpdbofhpffaaa.Pv Go.RowKit
set_option maxRecDepth 100000
set_option maxHeartbeats 4000000
set_option linter.unusedSimpArgs false
set_option linter.unusedVariables false
set_option maxHeartbeats 2000000
theorem ok20 (s : St)  : Ok Try.prog X.G 20 [s.pv] (I (sml s)) := by
  obtain ⟨iso, hC⟩ : ∃ iso : Nat → List PV → Option PV, OrcOk Try.prog X.G ⟨iso, no_shr, ownS X.sh, []⟩ := ⟨_, iso0⟩
  by_cases he : ∀ j, j < s.c.length → decide ((s.c.getD j default).length ≤ 60) = true
  · refine wok env hC fd20 (t20a iso s) ?_ hhC
    simp only [Holds]
    refine ⟨fun h0 => ?_, fun h0 => ?_⟩
    · have g0 := of_decide_eq_true h0
      try simp only [List.length_map] at g0
      (exact fin_i (Eq.symm (sml_no.2 (fun h => by have q := sml_iff.1 h; omega))))
    · have g0 := of_decide_eq_false h0
      try simp only [List.length_map] at g0
      refine ⟨fun h1 => ?_, fun h1 => ?_⟩
      · have g1 := of_decide_eq_true h1
        try simp only [List.length_map] at g1
        (exact fin_i (Eq.symm (sml_no.2 (fun h => by have q := sml_iff.1 h; omega))))
      · have g1 := of_decide_eq_false h1
        try simp only [List.length_map] at g1
        refine ⟨fun h2 => ?_, fun h2 => ?_⟩
        · have g2 := of_decide_eq_true h2
          try simp only [List.length_map] at g2
          (exact fin_i (Eq.symm (sml_no.2 (fun h => by have q := sml_iff.1 h; omega))))
        · have g2 := of_decide_eq_false h2
          try simp only [List.length_map] at g2
          refine ⟨?_, ?_⟩
          · exact ⟨trivial, (by trivial), ⟨(by exact VW.int rfl), (by exact VW.cptr rfl), trivial⟩, trivial⟩
          refine ⟨?_, ?_⟩
          · exact (lp20 iso hC  s (by omega)).1 he
          exact fin_i (Eq.symm (sml_iff.2 ⟨by omega, by omega, by omega, he⟩))
  · obtain ⟨j, j1, j2, j3⟩ := first_false he
    refine wok env hC fd20 (t20b iso s j) ?_ hhC
    simp only [Holds]
    refine ⟨fun h0 => ?_, fun h0 => ?_⟩
    · have g0 := of_decide_eq_true h0
      try simp only [List.length_map] at g0
      (exact fin_i (Eq.symm (sml_no.2 (fun h => by have q := sml_iff.1 h; omega))))
    · have g0 := of_decide_eq_false h0
      try simp only [List.length_map] at g0
      refine ⟨fun h1 => ?_, fun h1 => ?_⟩
      · have g1 := of_decide_eq_true h1
        try simp only [List.length_map] at g1
        (exact fin_i (Eq.symm (sml_no.2 (fun h => by have q := sml_iff.1 h; omega))))
      · have g1 := of_decide_eq_false h1
        try simp only [List.length_map] at g1
        refine ⟨fun h2 => ?_, fun h2 => ?_⟩
        · have g2 := of_decide_eq_true h2
          try simp only [List.length_map] at g2
          (exact fin_i (Eq.symm (sml_no.2 (fun h => by have q := sml_iff.1 h; omega))))
        · have g2 := of_decide_eq_false h2
          try simp only [List.length_map] at g2
          refine ⟨?_, ?_⟩
          · exact ⟨trivial, (by trivial), ⟨(by exact VW.int rfl), (by exact VW.cptr rfl), trivial⟩, trivial⟩
          refine ⟨?_, ?_⟩
          · exact (lp20 iso hC  s (by omega)).2 j j1 j2 j3
          (exact fin_i (Eq.symm (sml_no.2 (fun h => by have q := sml_iff.1 h; (exact absurd q.2.2.2 he)))))
theorem la4 : ∃ iso : Nat → List PV → Option PV, OrcOk Try.prog X.G ⟨iso, no_shr, ownS X.sh, []⟩ ∧ (∀ (l : List VD), iso 34 [vars l] = some (.bool (valV l))) ∧ (∀ (v : VD), iso 36 [v.pv] = some (I (wid v))) ∧ (∀ (l : List VD), l.length ≤ BB → iso 15 [vars l] = some (.bool (valV l))) ∧ (∀ (a : List (List Int)) (b : List (List Int)), (a.length ≤ BB ∧ ∀ x ∈ a, x.length ≤ BB) → iso 37 [cells a, cells b, .fn 38 []] = some (.bool (decide (a = b)))) ∧ (∀ (a : List Int) (b : List Int), a.length ≤ BB → iso 38 [ints a, ints b] = some (.bool (decide (a = b)))) := by
  obtain ⟨h34, e34, o34⟩ := ent_ex (fun q : List VD => True) (fun q => ([vars (q)], .bool (valV (q)))) (fun a b h => by simp only [List.cons.injEq, ints_inj, cells_inj, vars_inj, VD_inj, St_inj, PV.int.injEq, and_true, true_and] at h; simp only [h])
  obtain ⟨h36, e36, o36⟩ := ent_ex (fun q : VD => True) (fun q => ([(q).pv], I (wid (q)))) (fun a b h => by simp only [List.cons.injEq, ints_inj, cells_inj, vars_inj, VD_inj, St_inj, PV.int.injEq, and_true, true_and] at h; simp only [h])
  obtain ⟨h15, e15, o15⟩ := ent_ex (fun q : List VD => (q).length ≤ BB) (fun q => ([vars (q)], .bool (valV (q)))) (fun a b h => by simp only [List.cons.injEq, ints_inj, cells_inj, vars_inj, VD_inj, St_inj, PV.int.injEq, and_true, true_and] at h; simp only [h])
  obtain ⟨h37, e37, o37⟩ := ent_ex (fun q : (List (List Int)) × (List (List Int)) => ((q.1).length ≤ BB ∧ ∀ x ∈ (q.1), x.length ≤ BB)) (fun q => ([cells (q.1), cells (q.2), .fn 38 []], .bool (decide ((q.1) = (q.2))))) (fun a b h => by simp only [List.cons.injEq, ints_inj, cells_inj, vars_inj, VD_inj, St_inj, PV.int.injEq, and_true, true_and] at h; simp only [h])
  obtain ⟨h38, e38, o38⟩ := ent_ex (fun q : (List Int) × (List Int) => (q.1).length ≤ BB) (fun q => ([ints (q.1), ints (q.2)], .bool (decide ((q.1) = (q.2))))) (fun a b h => by simp only [List.cons.injEq, ints_inj, cells_inj, vars_inj, VD_inj, St_inj, PV.int.injEq, and_true, true_and] at h; simp only [h])
  have hT : TabOk Try.prog X.G [(34, h34), (36, h36), (15, h15), (37, h37), (38, h38)] := tk (fun l r e => by obtain ⟨a, ha, rfl, rfl⟩ := o34 l r e; exact ok34 (a)) (tk (fun l r e => by obtain ⟨a, ha, rfl, rfl⟩ := o36 l r e; exact ok36 (a)) (tk (fun l r e => by obtain ⟨a, ha, rfl, rfl⟩ := o15 l r e; exact ok15 (a) ha) (tk (fun l r e => by obtain ⟨a, ha, rfl, rfl⟩ := o37 l r e; exact ok37 (a.1) (a.2) ha.1 ha.2) (tk (fun l r e => by obtain ⟨a, ha, rfl, rfl⟩ := o38 l r e; exact ok38 (a.1) (a.2) ha) tn))))
  refine ⟨(tab X.sh [(34, h34), (36, h36), (15, h15), (37, h37), (38, h38)] []).iso, orcK hT, fun l  => e34 l trivial, fun v  => e36 v trivial, fun l hp => e15 l hp, fun a b hp => e37 (a, b) hp, fun a b hp => e38 (a, b) hp⟩
theorem ok21 (a : St) (b : St) (hs : Sm a) : Ok Try.prog X.G 21 [a.pv, b.pv] (.bool (decide (a = b))) := by
  obtain ⟨iso, hC, e34, e36, e15, e37, e38⟩ := la4
  refine wok env hC fd21 (t21 iso a b) ?_ hhC
  simp only [Holds]
  refine ⟨fun h0 => ?_, fun h0 => ?_⟩
  · have g0 := of_decide_eq_true h0
    try simp only [List.length_map] at g0
    refine ⟨?_, ?_⟩
    · (exact pcallv_iso rfl rfl (by rw [← h0]; exact e37 _ _ ⟨hs.a, hs.b⟩))
    refine ⟨fun h1 => ?_, fun h1 => ?_⟩
    · have g1 := of_decide_eq_true h1
      try simp only [List.length_map] at g1
      refine ⟨?_, ?_⟩
      · (exact pcallv_iso rfl rfl (by rw [← h1]; exact e38 _ _ (by exact hs.c)))
      refine ⟨fun h2 => ?_, fun h2 => ?_⟩
      · have g2 := of_decide_eq_true h2
        try simp only [List.length_map] at g2
        refine ⟨?_, ?_⟩
        · (exact pcallv_iso rfl rfl (by rw [← h2]; exact e38 _ _ (by exact hs.d)))
        (exact fin_b (Eq.symm (decide_eq_true (by obtain ⟨x, y, z⟩ := a; obtain ⟨x', y', z'⟩ := b; simp_all))))
      · have g2 := of_decide_eq_false h2
        try simp only [List.length_map] at g2
        refine ⟨?_, ?_⟩
        · (exact pcallv_iso rfl rfl (by rw [← h2]; exact e38 _ _ (by exact hs.d)))
        (exact fin_b (Eq.symm (decide_eq_false (by rintro rfl; simp_all))))
    · have g1 := of_decide_eq_false h1
      try simp only [List.length_map] at g1
      refine ⟨?_, ?_⟩
      · (exact pcallv_iso rfl rfl (by rw [← h1]; exact e38 _ _ (by exact hs.c)))
      (exact fin_b (Eq.symm (decide_eq_false (by rintro rfl; simp_all))))
  · have g0 := of_decide_eq_false h0
    try simp only [List.length_map] at g0
    refine ⟨?_, ?_⟩
    · (exact pcallv_iso rfl rfl (by rw [← h0]; exact e37 _ _ ⟨hs.a, hs.b⟩))
    (exact fin_b (Eq.symm (decide_eq_false (by rintro rfl; simp_all))))
def hd17 (l : List VD) (s : St) (i : Nat) : PS := ⟨⟨63, [(33, .int .i64 ((i : Nat) : Int)), (3, .cptr (St.cs s)), (31, vars l), (32, .int .i64 (List.length l : Int))]⟩, []⟩
def en17 (l : List VD) (s : St) : PS := ⟨⟨63, []⟩, []⟩
theorem lp17 (iso : Nat → List PV → Option PV) (hC : OrcOk Try.prog X.G ⟨iso, no_shr, ownS X.sh, []⟩) (e36 : ∀ (v : VD), iso 36 [v.pv] = some (I (wid v)))  (l : List VD) (s : St) (hl : l.length ≤ 32) (hs : s.c.length = l.length) (hv : ∀ j, j < l.length → badV (l.getD j default) = false) : ((∀ j, j < l.length → fitC (l.getD j default) (s.c.getD j default) = true) → LoopOk Try.prog X.G 0 (lpB Try.f17 4) (hd17 l s 0) (.exit 0) (en17 l s)) ∧ (∀ j, j < l.length → fitC (l.getD j default) (s.c.getD j default) = false → (∀ k, k < j → fitC (l.getD k default) (s.c.getD k default) = true) → LoopOk Try.prog X.G 0 (lpB Try.f17 4) (hd17 l s 0) .ret ⟨⟨63, [(4, .bool false)]⟩, []⟩) := by
  refine loop_first (S := hd17 l s) (c := fun i => fitC (l.getD i default) (s.c.getD i default)) (e1 := fun i => (.ret, ⟨⟨63, [(4, .bool false)]⟩, []⟩)) (e2 := (.exit 0, en17 l s)) (fun i hi hc e s' nx => ?_) (fun i hi hc => ?_) ?_
  · refine round_ok env.mixed hC (by kernel_rfl) (r17 iso l s i) ?_
    simp only [Holds, Pv.Next]
    have hb : (i < l.length → ((VD.k (l.getD i default) = 1 ∨ VD.k (l.getD i default) = 3) ∧ VD.n (l.getD i default) = 0) ∨ (VD.k (l.getD i default) = 2 ∧ 1 ≤ VD.n (l.getD i default) ∧ VD.n (l.getD i default) ≤ 16)) := fun h => badV_iff.1 (hv _ h)
    have hw := wid_eq (l.getD i default)
    try rw [fitC_iff] at hc
    try rw [fitC_not] at hc
    refine ⟨fun h0 => ?_, fun h0 => ?_⟩
    · have g0 := of_decide_eq_true h0
      try simp only [List.length_map] at g0
      refine ⟨?_, ?_⟩
      · exact px22 (by omega)
      refine ⟨?_, ?_⟩
      · exact px25 (by omega)
      refine ⟨fun h1 => ?_, fun h1 => ?_⟩
      · have g1 := beq_iff_eq.1 h1
        try simp only [List.length_map] at g1
        refine ⟨fun h2 => ?_, fun h2 => ?_⟩
        · have g2 := of_decide_eq_true h2
          try simp only [List.length_map] at g2
          refine ⟨by trivial, ?_⟩
          refine ⟨?_, ?_⟩
          · exact ⟨trivial, (by trivial), ⟨(by exact VW.bool rfl), trivial⟩, trivial⟩
          omega
        · have g2 := of_decide_eq_false h2
          try simp only [List.length_map] at g2
          refine ⟨fun h3 => ?_, fun h3 => ?_⟩
          · have g3 := bne_iff_ne.1 h3
            try simp only [List.length_map] at g3
            refine ⟨?_, ?_⟩
            · exact pcallv_iso rfl rfl (e36 _)
            refine ⟨fun h4 => ?_, fun h4 => ?_⟩
            · have g4 := bne_iff_ne.1 h4
              try simp only [List.length_map] at g4
              refine ⟨by trivial, ?_⟩
              refine ⟨?_, ?_⟩
              · exact ⟨trivial, (by trivial), ⟨(by exact VW.bool rfl), trivial⟩, trivial⟩
              trivial
            · have g4 := bne_eq_false_iff_eq.1 h4
              try simp only [List.length_map] at g4
              refine ⟨?_, ?_⟩
              · exact ⟨trivial, (by trivial), ⟨(by exact VW.int (wsucc (by omega))), (by exact VW.cptr rfl), (by exact VW.lst rfl rfl), (by exact VW.int rfl), trivial⟩, trivial⟩
              exact nx
          · have g3 := bne_eq_false_iff_eq.1 h3
            try simp only [List.length_map] at g3
            refine ⟨?_, ?_⟩
            · exact ⟨trivial, (by trivial), ⟨(by exact VW.int (wsucc (by omega))), (by exact VW.cptr rfl), (by exact VW.lst rfl rfl), (by exact VW.int rfl), trivial⟩, trivial⟩
            exact nx
      · have g1 := beq_eq_false_iff_ne.1 h1
        try simp only [List.length_map] at g1
        refine ⟨fun h5 => ?_, fun h5 => ?_⟩
        · have g5 := bne_iff_ne.1 h5
          try simp only [List.length_map] at g5
          refine ⟨?_, ?_⟩
          · exact pcallv_iso rfl rfl (e36 _)
          refine ⟨fun h6 => ?_, fun h6 => ?_⟩
          · have g6 := bne_iff_ne.1 h6
            try simp only [List.length_map] at g6
            refine ⟨by trivial, ?_⟩
            refine ⟨?_, ?_⟩
            · exact ⟨trivial, (by trivial), ⟨(by exact VW.bool rfl), trivial⟩, trivial⟩
            omega
          · have g6 := bne_eq_false_iff_eq.1 h6
            try simp only [List.length_map] at g6
            refine ⟨?_, ?_⟩
            · exact ⟨trivial, (by trivial), ⟨(by exact VW.int (wsucc (by omega))), (by exact VW.cptr rfl), (by exact VW.lst rfl rfl), (by exact VW.int rfl), trivial⟩, trivial⟩
            exact nx
        · have g5 := bne_eq_false_iff_eq.1 h5
          try simp only [List.length_map] at g5
          refine ⟨?_, ?_⟩
          · exact ⟨trivial, (by trivial), ⟨(by exact VW.int (wsucc (by omega))), (by exact VW.cptr rfl), (by exact VW.lst rfl rfl), (by exact VW.int rfl), trivial⟩, trivial⟩
          exact nx
    · have g0 := of_decide_eq_false h0
      try simp only [List.length_map] at g0
      refine ⟨by trivial, ?_⟩
      refine ⟨?_, ?_⟩
      · exact ⟨trivial, (by trivial), trivial, trivial⟩
      omega
  · refine round_ok env.mixed hC (by kernel_rfl) (r17 iso l s i) ?_
    simp only [Holds, Pv.Next]
    have hb : (i < l.length → ((VD.k (l.getD i default) = 1 ∨ VD.k (l.getD i default) = 3) ∧ VD.n (l.getD i default) = 0) ∨ (VD.k (l.getD i default) = 2 ∧ 1 ≤ VD.n (l.getD i default) ∧ VD.n (l.getD i default) ≤ 16)) := fun h => badV_iff.1 (hv _ h)
    have hw := wid_eq (l.getD i default)
    try rw [fitC_iff] at hc
    try rw [fitC_not] at hc
    refine ⟨fun h0 => ?_, fun h0 => ?_⟩
    · have g0 := of_decide_eq_true h0
      try simp only [List.length_map] at g0
      refine ⟨?_, ?_⟩
      · exact px22 (by omega)
      refine ⟨?_, ?_⟩
      · exact px25 (by omega)
      refine ⟨fun h1 => ?_, fun h1 => ?_⟩
      · have g1 := beq_iff_eq.1 h1
        try simp only [List.length_map] at g1
        refine ⟨fun h2 => ?_, fun h2 => ?_⟩
        · have g2 := of_decide_eq_true h2
          try simp only [List.length_map] at g2
          refine ⟨by trivial, ?_⟩
          refine ⟨?_, ?_⟩
          · exact ⟨trivial, (by trivial), ⟨(by exact VW.bool rfl), trivial⟩, trivial⟩
          trivial
        · have g2 := of_decide_eq_false h2
          try simp only [List.length_map] at g2
          refine ⟨fun h3 => ?_, fun h3 => ?_⟩
          · have g3 := bne_iff_ne.1 h3
            try simp only [List.length_map] at g3
            refine ⟨?_, ?_⟩
            · exact pcallv_iso rfl rfl (e36 _)
            refine ⟨fun h4 => ?_, fun h4 => ?_⟩
            · have g4 := bne_iff_ne.1 h4
              try simp only [List.length_map] at g4
              refine ⟨by trivial, ?_⟩
              refine ⟨?_, ?_⟩
              · exact ⟨trivial, (by trivial), ⟨(by exact VW.bool rfl), trivial⟩, trivial⟩
              trivial
            · have g4 := bne_eq_false_iff_eq.1 h4
              try simp only [List.length_map] at g4
              refine ⟨?_, ?_⟩
              · exact ⟨trivial, (by trivial), ⟨(by exact VW.int (wsucc (by omega))), (by exact VW.cptr rfl), (by exact VW.lst rfl rfl), (by exact VW.int rfl), trivial⟩, trivial⟩
              omega
          · have g3 := bne_eq_false_iff_eq.1 h3
            try simp only [List.length_map] at g3
            refine ⟨?_, ?_⟩
            · exact ⟨trivial, (by trivial), ⟨(by exact VW.int (wsucc (by omega))), (by exact VW.cptr rfl), (by exact VW.lst rfl rfl), (by exact VW.int rfl), trivial⟩, trivial⟩
            omega
      · have g1 := beq_eq_false_iff_ne.1 h1
        try simp only [List.length_map] at g1
        refine ⟨fun h5 => ?_, fun h5 => ?_⟩
        · have g5 := bne_iff_ne.1 h5
          try simp only [List.length_map] at g5
          refine ⟨?_, ?_⟩
          · exact pcallv_iso rfl rfl (e36 _)
          refine ⟨fun h6 => ?_, fun h6 => ?_⟩
          · have g6 := bne_iff_ne.1 h6
            try simp only [List.length_map] at g6
            refine ⟨by trivial, ?_⟩
            refine ⟨?_, ?_⟩
            · exact ⟨trivial, (by trivial), ⟨(by exact VW.bool rfl), trivial⟩, trivial⟩
            trivial
          · have g6 := bne_eq_false_iff_eq.1 h6
            try simp only [List.length_map] at g6
            refine ⟨?_, ?_⟩
            · exact ⟨trivial, (by trivial), ⟨(by exact VW.int (wsucc (by omega))), (by exact VW.cptr rfl), (by exact VW.lst rfl rfl), (by exact VW.int rfl), trivial⟩, trivial⟩
            omega
        · have g5 := bne_eq_false_iff_eq.1 h5
          try simp only [List.length_map] at g5
          refine ⟨?_, ?_⟩
          · exact ⟨trivial, (by trivial), ⟨(by exact VW.int (wsucc (by omega))), (by exact VW.cptr rfl), (by exact VW.lst rfl rfl), (by exact VW.int rfl), trivial⟩, trivial⟩
          omega
    · have g0 := of_decide_eq_false h0
      try simp only [List.length_map] at g0
      refine ⟨by trivial, ?_⟩
      refine ⟨?_, ?_⟩
      · exact ⟨trivial, (by trivial), trivial, trivial⟩
      omega
  · refine round_ok env.mixed hC (by kernel_rfl) (r17 iso l s (l.length)) ?_
    simp only [Holds, Pv.Next]
    have hc : True := trivial
    have hb : ((l.length) < l.length → ((VD.k (l.getD (l.length) default) = 1 ∨ VD.k (l.getD (l.length) default) = 3) ∧ VD.n (l.getD (l.length) default) = 0) ∨ (VD.k (l.getD (l.length) default) = 2 ∧ 1 ≤ VD.n (l.getD (l.length) default) ∧ VD.n (l.getD (l.length) default) ≤ 16)) := fun h => badV_iff.1 (hv _ h)
    have hw := wid_eq (l.getD (l.length) default)
    try rw [fitC_iff] at hc
    try rw [fitC_not] at hc
    refine ⟨fun h0 => ?_, fun h0 => ?_⟩
    · have g0 := of_decide_eq_true h0
      try simp only [List.length_map] at g0
      refine ⟨?_, ?_⟩
      · exact px22 (by omega)
      refine ⟨?_, ?_⟩
      · exact px25 (by omega)
      refine ⟨fun h1 => ?_, fun h1 => ?_⟩
      · have g1 := beq_iff_eq.1 h1
        try simp only [List.length_map] at g1
        refine ⟨fun h2 => ?_, fun h2 => ?_⟩
        · have g2 := of_decide_eq_true h2
          try simp only [List.length_map] at g2
          refine ⟨by trivial, ?_⟩
          refine ⟨?_, ?_⟩
          · exact ⟨trivial, (by trivial), ⟨(by exact VW.bool rfl), trivial⟩, trivial⟩
          omega
        · have g2 := of_decide_eq_false h2
          try simp only [List.length_map] at g2
          refine ⟨fun h3 => ?_, fun h3 => ?_⟩
          · have g3 := bne_iff_ne.1 h3
            try simp only [List.length_map] at g3
            refine ⟨?_, ?_⟩
            · exact pcallv_iso rfl rfl (e36 _)
            refine ⟨fun h4 => ?_, fun h4 => ?_⟩
            · have g4 := bne_iff_ne.1 h4
              try simp only [List.length_map] at g4
              refine ⟨by trivial, ?_⟩
              refine ⟨?_, ?_⟩
              · exact ⟨trivial, (by trivial), ⟨(by exact VW.bool rfl), trivial⟩, trivial⟩
              trivial
            · have g4 := bne_eq_false_iff_eq.1 h4
              try simp only [List.length_map] at g4
              refine ⟨?_, ?_⟩
              · exact ⟨trivial, (by trivial), ⟨(by exact VW.int (wsucc (by omega))), (by exact VW.cptr rfl), (by exact VW.lst rfl rfl), (by exact VW.int rfl), trivial⟩, trivial⟩
              omega
          · have g3 := bne_eq_false_iff_eq.1 h3
            try simp only [List.length_map] at g3
            refine ⟨?_, ?_⟩
            · exact ⟨trivial, (by trivial), ⟨(by exact VW.int (wsucc (by omega))), (by exact VW.cptr rfl), (by exact VW.lst rfl rfl), (by exact VW.int rfl), trivial⟩, trivial⟩
            omega
      · have g1 := beq_eq_false_iff_ne.1 h1
        try simp only [List.length_map] at g1
        refine ⟨fun h5 => ?_, fun h5 => ?_⟩
        · have g5 := bne_iff_ne.1 h5
          try simp only [List.length_map] at g5
          refine ⟨?_, ?_⟩
          · exact pcallv_iso rfl rfl (e36 _)
          refine ⟨fun h6 => ?_, fun h6 => ?_⟩
          · have g6 := bne_iff_ne.1 h6
            try simp only [List.length_map] at g6
            refine ⟨by trivial, ?_⟩
            refine ⟨?_, ?_⟩
            · exact ⟨trivial, (by trivial), ⟨(by exact VW.bool rfl), trivial⟩, trivial⟩
            omega
          · have g6 := bne_eq_false_iff_eq.1 h6
            try simp only [List.length_map] at g6
            refine ⟨?_, ?_⟩
            · exact ⟨trivial, (by trivial), ⟨(by exact VW.int (wsucc (by omega))), (by exact VW.cptr rfl), (by exact VW.lst rfl rfl), (by exact VW.int rfl), trivial⟩, trivial⟩
            omega
        · have g5 := bne_eq_false_iff_eq.1 h5
          try simp only [List.length_map] at g5
          refine ⟨?_, ?_⟩
          · exact ⟨trivial, (by trivial), ⟨(by exact VW.int (wsucc (by omega))), (by exact VW.cptr rfl), (by exact VW.lst rfl rfl), (by exact VW.int rfl), trivial⟩, trivial⟩
          omega
    · have g0 := of_decide_eq_false h0
      try simp only [List.length_map] at g0
      refine ⟨by trivial, ?_⟩
      refine ⟨?_, ?_⟩
      · exact ⟨trivial, (by trivial), trivial, trivial⟩
      exact ⟨trivial, rfl⟩
theorem ok17 (l : List VD) (s : St)  : Ok Try.prog X.G 17 [vars l, s.pv] (.bool (fitV l s)) := by
  obtain ⟨iso, hC, e34, e36, e15, e37, e38⟩ := la4
  by_cases he : ∀ j, j < l.length → fitC (l.getD j default) (s.c.getD j default) = true
  · refine wok env hC fd17 (t17a iso l s) ?_ hhC
    simp only [Holds]
    refine ⟨fun h0 => ?_, fun h0 => ?_⟩
    · have g0 := h0
      refine ⟨?_, ?_⟩
      · (exact pcallv_iso rfl rfl (by rw [← h0]; exact e34 _))
      refine ⟨fun h1 => ?_, fun h1 => ?_⟩
      · have g1 := bne_iff_ne.1 h1
        try simp only [List.length_map] at g1
        (exact fin_b (Eq.symm (Bool.eq_false_iff.2 (fun h => by have q := fitV_iff.1 h; omega))))
      · have g1 := bne_eq_false_iff_eq.1 h1
        try simp only [List.length_map] at g1
        refine ⟨fun h2 => ?_, fun h2 => ?_⟩
        · have g2 := of_decide_eq_true h2
          try simp only [List.length_map] at g2
          (exact fin_b (Eq.symm (Bool.eq_false_iff.2 (fun h => by have q := fitV_iff.1 h; omega))))
        · have g2 := of_decide_eq_false h2
          try simp only [List.length_map] at g2
          refine ⟨fun h3 => ?_, fun h3 => ?_⟩
          · have g3 := of_decide_eq_true h3
            try simp only [List.length_map] at g3
            (exact fin_b (Eq.symm (Bool.eq_false_iff.2 (fun h => by have q := fitV_iff.1 h; omega))))
          · have g3 := of_decide_eq_false h3
            try simp only [List.length_map] at g3
            refine ⟨?_, ?_⟩
            · exact ⟨trivial, (by trivial), ⟨(by exact VW.int rfl), (by exact VW.cptr rfl), (by exact VW.lst rfl rfl), (by exact VW.int (by simp)), trivial⟩, trivial⟩
            refine ⟨?_, ?_⟩
            · exact (lp17 iso hC e36 l s (valV_iff.1 (by assumption)).1 (by omega) (fun j hj => by simpa using (valV_iff.1 (by assumption)).2 j hj)).1 he
            exact fin_b (Eq.symm (fitV_iff.2 ⟨by assumption, by omega, by omega, by omega, he⟩))
    · have g0 := h0
      refine ⟨?_, ?_⟩
      · (exact pcallv_iso rfl rfl (by rw [← h0]; exact e34 _))
      (exact fin_b (Eq.symm (Bool.eq_false_iff.2 (fun h => by have q := fitV_iff.1 h; (simp_all)))))
  · obtain ⟨j, j1, j2, j3⟩ := first_false he
    refine wok env hC fd17 (t17b iso l s j) ?_ hhC
    simp only [Holds]
    refine ⟨fun h0 => ?_, fun h0 => ?_⟩
    · have g0 := h0
      refine ⟨?_, ?_⟩
      · (exact pcallv_iso rfl rfl (by rw [← h0]; exact e34 _))
      refine ⟨fun h1 => ?_, fun h1 => ?_⟩
      · have g1 := bne_iff_ne.1 h1
        try simp only [List.length_map] at g1
        (exact fin_b (Eq.symm (Bool.eq_false_iff.2 (fun h => by have q := fitV_iff.1 h; omega))))
      · have g1 := bne_eq_false_iff_eq.1 h1
        try simp only [List.length_map] at g1
        refine ⟨fun h2 => ?_, fun h2 => ?_⟩
        · have g2 := of_decide_eq_true h2
          try simp only [List.length_map] at g2
          (exact fin_b (Eq.symm (Bool.eq_false_iff.2 (fun h => by have q := fitV_iff.1 h; omega))))
        · have g2 := of_decide_eq_false h2
          try simp only [List.length_map] at g2
          refine ⟨fun h3 => ?_, fun h3 => ?_⟩
          · have g3 := of_decide_eq_true h3
            try simp only [List.length_map] at g3
            (exact fin_b (Eq.symm (Bool.eq_false_iff.2 (fun h => by have q := fitV_iff.1 h; omega))))
          · have g3 := of_decide_eq_false h3
            try simp only [List.length_map] at g3
            refine ⟨?_, ?_⟩
            · exact ⟨trivial, (by trivial), ⟨(by exact VW.int rfl), (by exact VW.cptr rfl), (by exact VW.lst rfl rfl), (by exact VW.int (by simp)), trivial⟩, trivial⟩
            refine ⟨?_, ?_⟩
            · exact (lp17 iso hC e36 l s (valV_iff.1 (by assumption)).1 (by omega) (fun j hj => by simpa using (valV_iff.1 (by assumption)).2 j hj)).2 j j1 j2 j3
            (exact fin_b (Eq.symm (Bool.eq_false_iff.2 (fun h => by have q := fitV_iff.1 h; exact absurd q.2.2.2.2 he))))
    · have g0 := h0
      refine ⟨?_, ?_⟩
      · (exact pcallv_iso rfl rfl (by rw [← h0]; exact e34 _))
      (exact fin_b (Eq.symm (Bool.eq_false_iff.2 (fun h => by have q := fitV_iff.1 h; (simp_all)))))
def hd18 (l : List VD) (s : St) (i : Nat) : PS := ⟨⟨73, [(5, .int .i64 ((i : Nat) : Int)), (0, vars l), (3, .cptr (St.cs s))]⟩, []⟩
def en18 (l : List VD) (s : St) : PS := ⟨⟨73, []⟩, []⟩
theorem lp18 (iso : Nat → List PV → Option PV) (hC : OrcOk Try.prog X.G ⟨iso, no_shr, ownS X.sh, []⟩)  (l : List VD) (s : St) (hl : l.length ≤ 32) (hs : s.c.length = l.length) (hv : ∀ j, j < l.length → badV (l.getD j default) = false) : ((∀ j, j < l.length → fitC (l.getD j default) (s.c.getD j default) = true) → LoopOk Try.prog X.G 0 (lpB Try.f18 4) (hd18 l s 0) (.exit 0) (en18 l s)) ∧ (∀ j, j < l.length → fitC (l.getD j default) (s.c.getD j default) = false → (∀ k, k < j → fitC (l.getD k default) (s.c.getD k default) = true) → LoopOk Try.prog X.G 0 (lpB Try.f18 4) (hd18 l s 0) .ret ⟨⟨73, [(4, .bool false)]⟩, []⟩) := by
  refine loop_first (S := hd18 l s) (c := fun i => fitC (l.getD i default) (s.c.getD i default)) (e1 := fun i => (.ret, ⟨⟨73, [(4, .bool false)]⟩, []⟩)) (e2 := (.exit 0, en18 l s)) (fun i hi hc e s' nx => ?_) (fun i hi hc => ?_) ?_
  · refine round_ok env.mixed hC (by kernel_rfl) (r18 iso l s i) ?_
    simp only [Holds, Pv.Next]
    have hb : (i < l.length → ((VD.k (l.getD i default) = 1 ∨ VD.k (l.getD i default) = 3) ∧ VD.n (l.getD i default) = 0) ∨ (VD.k (l.getD i default) = 2 ∧ 1 ≤ VD.n (l.getD i default) ∧ VD.n (l.getD i default) ≤ 16)) := fun h => badV_iff.1 (hv _ h)
    have hw := wid_eq (l.getD i default)
    try rw [fitC_iff] at hc
    try rw [fitC_not] at hc
    refine ⟨fun h0 => ?_, fun h0 => ?_⟩
    · have g0 := of_decide_eq_true h0
      try simp only [List.length_map] at g0
      refine ⟨?_, ?_⟩
      · exact px25 (by omega)
      refine ⟨?_, ?_⟩
      · exact px22 (by omega)
      refine ⟨fun h1 => ?_, fun h1 => ?_⟩
      · have g1 := beq_iff_eq.1 h1
        try simp only [List.length_map] at g1
        refine ⟨fun h2 => ?_, fun h2 => ?_⟩
        · have g2 := bne_iff_ne.1 h2
          try simp only [List.length_map] at g2
          refine ⟨by trivial, ?_⟩
          refine ⟨?_, ?_⟩
          · exact ⟨trivial, (by trivial), ⟨(by exact VW.bool rfl), trivial⟩, trivial⟩
          omega
        · have g2 := bne_eq_false_iff_eq.1 h2
          try simp only [List.length_map] at g2
          refine ⟨?_, ?_⟩
          · exact px22 (by omega)
          refine ⟨fun h3 => ?_, fun h3 => ?_⟩
          · have g3 := beq_iff_eq.1 h3
            try simp only [List.length_map] at g3
            refine ⟨?_, ?_⟩
            · exact px22 (by omega)
            refine ⟨fun h4 => ?_, fun h4 => ?_⟩
            · have g4 := bne_iff_ne.1 h4
              try simp only [List.length_map] at g4
              refine ⟨by trivial, ?_⟩
              refine ⟨?_, ?_⟩
              · exact ⟨trivial, (by trivial), ⟨(by exact VW.bool rfl), trivial⟩, trivial⟩
              omega
            · have g4 := bne_eq_false_iff_eq.1 h4
              try simp only [List.length_map] at g4
              refine ⟨fun h5 => ?_, fun h5 => ?_⟩
              · have g5 := of_decide_eq_true h5
                try simp only [List.length_map] at g5
                refine ⟨by trivial, ?_⟩
                refine ⟨?_, ?_⟩
                · exact ⟨trivial, (by trivial), ⟨(by exact VW.bool rfl), trivial⟩, trivial⟩
                omega
              · have g5 := of_decide_eq_false h5
                try simp only [List.length_map] at g5
                refine ⟨?_, ?_⟩
                · exact ⟨trivial, (by trivial), ⟨(by exact VW.int (wsucc (by omega))), (by exact VW.lst rfl rfl), (by exact VW.cptr rfl), trivial⟩, trivial⟩
                exact nx
          · have g3 := beq_eq_false_iff_ne.1 h3
            try simp only [List.length_map] at g3
            refine ⟨fun h6 => ?_, fun h6 => ?_⟩
            · have g6 := of_decide_eq_true h6
              try simp only [List.length_map] at g6
              refine ⟨by trivial, ?_⟩
              refine ⟨?_, ?_⟩
              · exact ⟨trivial, (by trivial), ⟨(by exact VW.bool rfl), trivial⟩, trivial⟩
              omega
            · have g6 := of_decide_eq_false h6
              try simp only [List.length_map] at g6
              refine ⟨?_, ?_⟩
              · exact ⟨trivial, (by trivial), ⟨(by exact VW.int (wsucc (by omega))), (by exact VW.lst rfl rfl), (by exact VW.cptr rfl), trivial⟩, trivial⟩
              exact nx
      · have g1 := beq_eq_false_iff_ne.1 h1
        try simp only [List.length_map] at g1
        refine ⟨?_, ?_⟩
        · exact px22 (by omega)
        refine ⟨fun h7 => ?_, fun h7 => ?_⟩
        · have g7 := beq_iff_eq.1 h7
          try simp only [List.length_map] at g7
          refine ⟨?_, ?_⟩
          · exact px22 (by omega)
          refine ⟨fun h8 => ?_, fun h8 => ?_⟩
          · have g8 := bne_iff_ne.1 h8
            try simp only [List.length_map] at g8
            refine ⟨by trivial, ?_⟩
            refine ⟨?_, ?_⟩
            · exact ⟨trivial, (by trivial), ⟨(by exact VW.bool rfl), trivial⟩, trivial⟩
            omega
          · have g8 := bne_eq_false_iff_eq.1 h8
            try simp only [List.length_map] at g8
            refine ⟨fun h9 => ?_, fun h9 => ?_⟩
            · have g9 := of_decide_eq_true h9
              try simp only [List.length_map] at g9
              refine ⟨by trivial, ?_⟩
              refine ⟨?_, ?_⟩
              · exact ⟨trivial, (by trivial), ⟨(by exact VW.bool rfl), trivial⟩, trivial⟩
              omega
            · have g9 := of_decide_eq_false h9
              try simp only [List.length_map] at g9
              refine ⟨?_, ?_⟩
              · exact ⟨trivial, (by trivial), ⟨(by exact VW.int (wsucc (by omega))), (by exact VW.lst rfl rfl), (by exact VW.cptr rfl), trivial⟩, trivial⟩
              exact nx
        · have g7 := beq_eq_false_iff_ne.1 h7
          try simp only [List.length_map] at g7
          refine ⟨fun h10 => ?_, fun h10 => ?_⟩
          · have g10 := of_decide_eq_true h10
            try simp only [List.length_map] at g10
            refine ⟨by trivial, ?_⟩
            refine ⟨?_, ?_⟩
            · exact ⟨trivial, (by trivial), ⟨(by exact VW.bool rfl), trivial⟩, trivial⟩
            omega
          · have g10 := of_decide_eq_false h10
            try simp only [List.length_map] at g10
            refine ⟨?_, ?_⟩
            · exact ⟨trivial, (by trivial), ⟨(by exact VW.int (wsucc (by omega))), (by exact VW.lst rfl rfl), (by exact VW.cptr rfl), trivial⟩, trivial⟩
            exact nx
    · have g0 := of_decide_eq_false h0
      try simp only [List.length_map] at g0
      refine ⟨by trivial, ?_⟩
      refine ⟨?_, ?_⟩
      · exact ⟨trivial, (by trivial), trivial, trivial⟩
      omega
  · refine round_ok env.mixed hC (by kernel_rfl) (r18 iso l s i) ?_
    simp only [Holds, Pv.Next]
    have hb : (i < l.length → ((VD.k (l.getD i default) = 1 ∨ VD.k (l.getD i default) = 3) ∧ VD.n (l.getD i default) = 0) ∨ (VD.k (l.getD i default) = 2 ∧ 1 ≤ VD.n (l.getD i default) ∧ VD.n (l.getD i default) ≤ 16)) := fun h => badV_iff.1 (hv _ h)
    have hw := wid_eq (l.getD i default)
    try rw [fitC_iff] at hc
    try rw [fitC_not] at hc
    refine ⟨fun h0 => ?_, fun h0 => ?_⟩
    · have g0 := of_decide_eq_true h0
      try simp only [List.length_map] at g0
      refine ⟨?_, ?_⟩
      · exact px25 (by omega)
      refine ⟨?_, ?_⟩
      · exact px22 (by omega)
      refine ⟨fun h1 => ?_, fun h1 => ?_⟩
      · have g1 := beq_iff_eq.1 h1
        try simp only [List.length_map] at g1
        refine ⟨fun h2 => ?_, fun h2 => ?_⟩
        · have g2 := bne_iff_ne.1 h2
          try simp only [List.length_map] at g2
          refine ⟨by trivial, ?_⟩
          refine ⟨?_, ?_⟩
          · exact ⟨trivial, (by trivial), ⟨(by exact VW.bool rfl), trivial⟩, trivial⟩
          trivial
        · have g2 := bne_eq_false_iff_eq.1 h2
          try simp only [List.length_map] at g2
          refine ⟨?_, ?_⟩
          · exact px22 (by omega)
          refine ⟨fun h3 => ?_, fun h3 => ?_⟩
          · have g3 := beq_iff_eq.1 h3
            try simp only [List.length_map] at g3
            refine ⟨?_, ?_⟩
            · exact px22 (by omega)
            refine ⟨fun h4 => ?_, fun h4 => ?_⟩
            · have g4 := bne_iff_ne.1 h4
              try simp only [List.length_map] at g4
              refine ⟨by trivial, ?_⟩
              refine ⟨?_, ?_⟩
              · exact ⟨trivial, (by trivial), ⟨(by exact VW.bool rfl), trivial⟩, trivial⟩
              trivial
            · have g4 := bne_eq_false_iff_eq.1 h4
              try simp only [List.length_map] at g4
              refine ⟨fun h5 => ?_, fun h5 => ?_⟩
              · have g5 := of_decide_eq_true h5
                try simp only [List.length_map] at g5
                refine ⟨by trivial, ?_⟩
                refine ⟨?_, ?_⟩
                · exact ⟨trivial, (by trivial), ⟨(by exact VW.bool rfl), trivial⟩, trivial⟩
                trivial
              · have g5 := of_decide_eq_false h5
                try simp only [List.length_map] at g5
                refine ⟨?_, ?_⟩
                · exact ⟨trivial, (by trivial), ⟨(by exact VW.int (wsucc (by omega))), (by exact VW.lst rfl rfl), (by exact VW.cptr rfl), trivial⟩, trivial⟩
                omega
          · have g3 := beq_eq_false_iff_ne.1 h3
            try simp only [List.length_map] at g3
            refine ⟨fun h6 => ?_, fun h6 => ?_⟩
            · have g6 := of_decide_eq_true h6
              try simp only [List.length_map] at g6
              refine ⟨by trivial, ?_⟩
              refine ⟨?_, ?_⟩
              · exact ⟨trivial, (by trivial), ⟨(by exact VW.bool rfl), trivial⟩, trivial⟩
              trivial
            · have g6 := of_decide_eq_false h6
              try simp only [List.length_map] at g6
              refine ⟨?_, ?_⟩
              · exact ⟨trivial, (by trivial), ⟨(by exact VW.int (wsucc (by omega))), (by exact VW.lst rfl rfl), (by exact VW.cptr rfl), trivial⟩, trivial⟩
              omega
      · have g1 := beq_eq_false_iff_ne.1 h1
        try simp only [List.length_map] at g1
        refine ⟨?_, ?_⟩
        · exact px22 (by omega)
        refine ⟨fun h7 => ?_, fun h7 => ?_⟩
        · have g7 := beq_iff_eq.1 h7
          try simp only [List.length_map] at g7
          refine ⟨?_, ?_⟩
          · exact px22 (by omega)
          refine ⟨fun h8 => ?_, fun h8 => ?_⟩
          · have g8 := bne_iff_ne.1 h8
            try simp only [List.length_map] at g8
            refine ⟨by trivial, ?_⟩
            refine ⟨?_, ?_⟩
            · exact ⟨trivial, (by trivial), ⟨(by exact VW.bool rfl), trivial⟩, trivial⟩
            trivial
          · have g8 := bne_eq_false_iff_eq.1 h8
            try simp only [List.length_map] at g8
            refine ⟨fun h9 => ?_, fun h9 => ?_⟩
            · have g9 := of_decide_eq_true h9
              try simp only [List.length_map] at g9
              refine ⟨by trivial, ?_⟩
              refine ⟨?_, ?_⟩
              · exact ⟨trivial, (by trivial), ⟨(by exact VW.bool rfl), trivial⟩, trivial⟩
              trivial
            · have g9 := of_decide_eq_false h9
              try simp only [List.length_map] at g9
              refine ⟨?_, ?_⟩
              · exact ⟨trivial, (by trivial), ⟨(by exact VW.int (wsucc (by omega))), (by exact VW.lst rfl rfl), (by exact VW.cptr rfl), trivial⟩, trivial⟩
              omega
        · have g7 := beq_eq_false_iff_ne.1 h7
          try simp only [List.length_map] at g7
          refine ⟨fun h10 => ?_, fun h10 => ?_⟩
          · have g10 := of_decide_eq_true h10
            try simp only [List.length_map] at g10
            refine ⟨by trivial, ?_⟩
            refine ⟨?_, ?_⟩
            · exact ⟨trivial, (by trivial), ⟨(by exact VW.bool rfl), trivial⟩, trivial⟩
            trivial
          · have g10 := of_decide_eq_false h10
            try simp only [List.length_map] at g10
            refine ⟨?_, ?_⟩
            · exact ⟨trivial, (by trivial), ⟨(by exact VW.int (wsucc (by omega))), (by exact VW.lst rfl rfl), (by exact VW.cptr rfl), trivial⟩, trivial⟩
            omega
    · have g0 := of_decide_eq_false h0
      try simp only [List.length_map] at g0
      refine ⟨by trivial, ?_⟩
      refine ⟨?_, ?_⟩
      · exact ⟨trivial, (by trivial), trivial, trivial⟩
      omega
  · refine round_ok env.mixed hC (by kernel_rfl) (r18 iso l s (l.length)) ?_
    simp only [Holds, Pv.Next]
    have hc : True := trivial
    have hb : ((l.length) < l.length → ((VD.k (l.getD (l.length) default) = 1 ∨ VD.k (l.getD (l.length) default) = 3) ∧ VD.n (l.getD (l.length) default) = 0) ∨ (VD.k (l.getD (l.length) default) = 2 ∧ 1 ≤ VD.n (l.getD (l.length) default) ∧ VD.n (l.getD (l.length) default) ≤ 16)) := fun h => badV_iff.1 (hv _ h)
    have hw := wid_eq (l.getD (l.length) default)
    try rw [fitC_iff] at hc
    try rw [fitC_not] at hc
    refine ⟨fun h0 => ?_, fun h0 => ?_⟩
    · have g0 := of_decide_eq_true h0
      try simp only [List.length_map] at g0
      refine ⟨?_, ?_⟩
      · exact px25 (by omega)
      refine ⟨?_, ?_⟩
      · exact px22 (by omega)
      refine ⟨fun h1 => ?_, fun h1 => ?_⟩
      · have g1 := beq_iff_eq.1 h1
        try simp only [List.length_map] at g1
        refine ⟨fun h2 => ?_, fun h2 => ?_⟩
        · have g2 := bne_iff_ne.1 h2
          try simp only [List.length_map] at g2
          refine ⟨by trivial, ?_⟩
          refine ⟨?_, ?_⟩
          · exact ⟨trivial, (by trivial), ⟨(by exact VW.bool rfl), trivial⟩, trivial⟩
          omega
        · have g2 := bne_eq_false_iff_eq.1 h2
          try simp only [List.length_map] at g2
          refine ⟨?_, ?_⟩
          · exact px22 (by omega)
          refine ⟨fun h3 => ?_, fun h3 => ?_⟩
          · have g3 := beq_iff_eq.1 h3
            try simp only [List.length_map] at g3
            refine ⟨?_, ?_⟩
            · exact px22 (by omega)
            refine ⟨fun h4 => ?_, fun h4 => ?_⟩
            · have g4 := bne_iff_ne.1 h4
              try simp only [List.length_map] at g4
              refine ⟨by trivial, ?_⟩
              refine ⟨?_, ?_⟩
              · exact ⟨trivial, (by trivial), ⟨(by exact VW.bool rfl), trivial⟩, trivial⟩
              omega
            · have g4 := bne_eq_false_iff_eq.1 h4
              try simp only [List.length_map] at g4
              refine ⟨fun h5 => ?_, fun h5 => ?_⟩
              · have g5 := of_decide_eq_true h5
                try simp only [List.length_map] at g5
                refine ⟨by trivial, ?_⟩
                refine ⟨?_, ?_⟩
                · exact ⟨trivial, (by trivial), ⟨(by exact VW.bool rfl), trivial⟩, trivial⟩
                omega
              · have g5 := of_decide_eq_false h5
                try simp only [List.length_map] at g5
                refine ⟨?_, ?_⟩
                · exact ⟨trivial, (by trivial), ⟨(by exact VW.int (wsucc (by omega))), (by exact VW.lst rfl rfl), (by exact VW.cptr rfl), trivial⟩, trivial⟩
                omega
          · have g3 := beq_eq_false_iff_ne.1 h3
            try simp only [List.length_map] at g3
            refine ⟨fun h6 => ?_, fun h6 => ?_⟩
            · have g6 := of_decide_eq_true h6
              try simp only [List.length_map] at g6
              refine ⟨by trivial, ?_⟩
              refine ⟨?_, ?_⟩
              · exact ⟨trivial, (by trivial), ⟨(by exact VW.bool rfl), trivial⟩, trivial⟩
              omega
            · have g6 := of_decide_eq_false h6
              try simp only [List.length_map] at g6
              refine ⟨?_, ?_⟩
              · exact ⟨trivial, (by trivial), ⟨(by exact VW.int (wsucc (by omega))), (by exact VW.lst rfl rfl), (by exact VW.cptr rfl), trivial⟩, trivial⟩
              omega
      · have g1 := beq_eq_false_iff_ne.1 h1
        try simp only [List.length_map] at g1
        refine ⟨?_, ?_⟩
        · exact px22 (by omega)
        refine ⟨fun h7 => ?_, fun h7 => ?_⟩
        · have g7 := beq_iff_eq.1 h7
          try simp only [List.length_map] at g7
          refine ⟨?_, ?_⟩
          · exact px22 (by omega)
          refine ⟨fun h8 => ?_, fun h8 => ?_⟩
          · have g8 := bne_iff_ne.1 h8
            try simp only [List.length_map] at g8
            refine ⟨by trivial, ?_⟩
            refine ⟨?_, ?_⟩
            · exact ⟨trivial, (by trivial), ⟨(by exact VW.bool rfl), trivial⟩, trivial⟩
            omega
          · have g8 := bne_eq_false_iff_eq.1 h8
            try simp only [List.length_map] at g8
            refine ⟨fun h9 => ?_, fun h9 => ?_⟩
            · have g9 := of_decide_eq_true h9
              try simp only [List.length_map] at g9
              refine ⟨by trivial, ?_⟩
              refine ⟨?_, ?_⟩
              · exact ⟨trivial, (by trivial), ⟨(by exact VW.bool rfl), trivial⟩, trivial⟩
              omega
            · have g9 := of_decide_eq_false h9
              try simp only [List.length_map] at g9
              refine ⟨?_, ?_⟩
              · exact ⟨trivial, (by trivial), ⟨(by exact VW.int (wsucc (by omega))), (by exact VW.lst rfl rfl), (by exact VW.cptr rfl), trivial⟩, trivial⟩
              omega
        · have g7 := beq_eq_false_iff_ne.1 h7
          try simp only [List.length_map] at g7
          refine ⟨fun h10 => ?_, fun h10 => ?_⟩
          · have g10 := of_decide_eq_true h10
            try simp only [List.length_map] at g10
            refine ⟨by trivial, ?_⟩
            refine ⟨?_, ?_⟩
            · exact ⟨trivial, (by trivial), ⟨(by exact VW.bool rfl), trivial⟩, trivial⟩
            omega
          · have g10 := of_decide_eq_false h10
            try simp only [List.length_map] at g10
            refine ⟨?_, ?_⟩
            · exact ⟨trivial, (by trivial), ⟨(by exact VW.int (wsucc (by omega))), (by exact VW.lst rfl rfl), (by exact VW.cptr rfl), trivial⟩, trivial⟩
            omega
    · have g0 := of_decide_eq_false h0
      try simp only [List.length_map] at g0
      refine ⟨by trivial, ?_⟩
      refine ⟨?_, ?_⟩
      · exact ⟨trivial, (by trivial), trivial, trivial⟩
      exact ⟨trivial, rfl⟩
theorem ok18 (l : List VD) (s : St) (hl : l.length ≤ BB) : Ok Try.prog X.G 18 [vars l, s.pv] (.bool (fitV l s)) := by
  obtain ⟨iso, hC, e34, e36, e15, e37, e38⟩ := la4
  by_cases he : ∀ j, j < l.length → fitC (l.getD j default) (s.c.getD j default) = true
  · refine wok env hC fd18 (t18a iso l s) ?_ hhC
    simp only [Holds]
    refine ⟨fun h0 => ?_, fun h0 => ?_⟩
    · have g0 := h0
      refine ⟨?_, ?_⟩
      · (exact pcallv_iso rfl rfl (by rw [← h0]; exact e15 _ hl))
      refine ⟨fun h1 => ?_, fun h1 => ?_⟩
      · have g1 := bne_iff_ne.1 h1
        try simp only [List.length_map] at g1
        (exact fin_b (Eq.symm (Bool.eq_false_iff.2 (fun h => by have q := fitV_iff.1 h; omega))))
      · have g1 := bne_eq_false_iff_eq.1 h1
        try simp only [List.length_map] at g1
        refine ⟨fun h2 => ?_, fun h2 => ?_⟩
        · have g2 := of_decide_eq_true h2
          try simp only [List.length_map] at g2
          (exact fin_b (Eq.symm (Bool.eq_false_iff.2 (fun h => by have q := fitV_iff.1 h; omega))))
        · have g2 := of_decide_eq_false h2
          try simp only [List.length_map] at g2
          refine ⟨fun h3 => ?_, fun h3 => ?_⟩
          · have g3 := of_decide_eq_true h3
            try simp only [List.length_map] at g3
            (exact fin_b (Eq.symm (Bool.eq_false_iff.2 (fun h => by have q := fitV_iff.1 h; omega))))
          · have g3 := of_decide_eq_false h3
            try simp only [List.length_map] at g3
            refine ⟨?_, ?_⟩
            · exact ⟨trivial, (by trivial), ⟨(by exact VW.int rfl), (by exact VW.lst rfl rfl), (by exact VW.cptr rfl), trivial⟩, trivial⟩
            refine ⟨?_, ?_⟩
            · exact (lp18 iso hC  l s (valV_iff.1 (by assumption)).1 (by omega) (fun j hj => by simpa using (valV_iff.1 (by assumption)).2 j hj)).1 he
            exact fin_b (Eq.symm (fitV_iff.2 ⟨by assumption, by omega, by omega, by omega, he⟩))
    · have g0 := h0
      refine ⟨?_, ?_⟩
      · (exact pcallv_iso rfl rfl (by rw [← h0]; exact e15 _ hl))
      (exact fin_b (Eq.symm (Bool.eq_false_iff.2 (fun h => by have q := fitV_iff.1 h; (simp_all)))))
  · obtain ⟨j, j1, j2, j3⟩ := first_false he
    refine wok env hC fd18 (t18b iso l s j) ?_ hhC
    simp only [Holds]
    refine ⟨fun h0 => ?_, fun h0 => ?_⟩
    · have g0 := h0
      refine ⟨?_, ?_⟩
      · (exact pcallv_iso rfl rfl (by rw [← h0]; exact e15 _ hl))
      refine ⟨fun h1 => ?_, fun h1 => ?_⟩
      · have g1 := bne_iff_ne.1 h1
        try simp only [List.length_map] at g1
        (exact fin_b (Eq.symm (Bool.eq_false_iff.2 (fun h => by have q := fitV_iff.1 h; omega))))
      · have g1 := bne_eq_false_iff_eq.1 h1
        try simp only [List.length_map] at g1
        refine ⟨fun h2 => ?_, fun h2 => ?_⟩
        · have g2 := of_decide_eq_true h2
          try simp only [List.length_map] at g2
          (exact fin_b (Eq.symm (Bool.eq_false_iff.2 (fun h => by have q := fitV_iff.1 h; omega))))
        · have g2 := of_decide_eq_false h2
          try simp only [List.length_map] at g2
          refine ⟨fun h3 => ?_, fun h3 => ?_⟩
          · have g3 := of_decide_eq_true h3
            try simp only [List.length_map] at g3
            (exact fin_b (Eq.symm (Bool.eq_false_iff.2 (fun h => by have q := fitV_iff.1 h; omega))))
          · have g3 := of_decide_eq_false h3
            try simp only [List.length_map] at g3
            refine ⟨?_, ?_⟩
            · exact ⟨trivial, (by trivial), ⟨(by exact VW.int rfl), (by exact VW.lst rfl rfl), (by exact VW.cptr rfl), trivial⟩, trivial⟩
            refine ⟨?_, ?_⟩
            · exact (lp18 iso hC  l s (valV_iff.1 (by assumption)).1 (by omega) (fun j hj => by simpa using (valV_iff.1 (by assumption)).2 j hj)).2 j j1 j2 j3
            (exact fin_b (Eq.symm (Bool.eq_false_iff.2 (fun h => by have q := fitV_iff.1 h; exact absurd q.2.2.2.2 he))))
    · have g0 := h0
      refine ⟨?_, ?_⟩
      · (exact pcallv_iso rfl rfl (by rw [← h0]; exact e15 _ hl))
      (exact fin_b (Eq.symm (Bool.eq_false_iff.2 (fun h => by have q := fitV_iff.1 h; (simp_all)))))
theorem ok13 : Ok Try.prog X.G 13 [] (.bool true) := ok_of_iso (n := 60) env (by kernel_rfl)
theorem la5 : ∃ iso : Nat → List PV → Option PV, OrcOk Try.prog X.G ⟨iso, no_shr, ownS X.sh, []⟩ ∧ (iso 13 [] = some (.bool true)) ∧ (∀ (s : St), iso 20 [s.pv] = some (I (sml s))) ∧ (∀ (l : List VD) (s : St), iso 17 [vars l, s.pv] = some (.bool (fitV l s))) ∧ (∀ (l : List VD) (s : St), l.length ≤ BB → iso 18 [vars l, s.pv] = some (.bool (fitV l s))) ∧ (∀ (a : St) (b : St), Sm a → iso 21 [a.pv, b.pv] = some (.bool (decide (a = b)))) ∧ (∀ (a : St) (b : St), Sm a → iso 16 [a.pv, b.pv] = some (.bool (decide (a = b)))) := by
  obtain ⟨h13, e13, o13⟩ := ent_ex (fun q : Unit => True) (fun q => ([], .bool true)) (fun a b h => by simp only [List.cons.injEq, ints_inj, cells_inj, vars_inj, VD_inj, St_inj, PV.int.injEq, and_true, true_and] at h; rfl)
  obtain ⟨h20, e20, o20⟩ := ent_ex (fun q : St => True) (fun q => ([(q).pv], I (sml (q)))) (fun a b h => by simp only [List.cons.injEq, ints_inj, cells_inj, vars_inj, VD_inj, St_inj, PV.int.injEq, and_true, true_and] at h; simp only [h])
  obtain ⟨h17, e17, o17⟩ := ent_ex (fun q : (List VD) × (St) => True) (fun q => ([vars (q.1), (q.2).pv], .bool (fitV (q.1) (q.2)))) (fun a b h => by simp only [List.cons.injEq, ints_inj, cells_inj, vars_inj, VD_inj, St_inj, PV.int.injEq, and_true, true_and] at h; simp only [h])
  obtain ⟨h18, e18, o18⟩ := ent_ex (fun q : (List VD) × (St) => (q.1).length ≤ BB) (fun q => ([vars (q.1), (q.2).pv], .bool (fitV (q.1) (q.2)))) (fun a b h => by simp only [List.cons.injEq, ints_inj, cells_inj, vars_inj, VD_inj, St_inj, PV.int.injEq, and_true, true_and] at h; simp only [h])
  obtain ⟨h21, e21, o21⟩ := ent_ex (fun q : (St) × (St) => Sm (q.1)) (fun q => ([(q.1).pv, (q.2).pv], .bool (decide ((q.1) = (q.2))))) (fun a b h => by simp only [List.cons.injEq, ints_inj, cells_inj, vars_inj, VD_inj, St_inj, PV.int.injEq, and_true, true_and] at h; simp only [h])
  obtain ⟨h16, e16, o16⟩ := ent_ex (fun q : (St) × (St) => Sm (q.1)) (fun q => ([(q.1).pv, (q.2).pv], .bool (decide ((q.1) = (q.2))))) (fun a b h => by simp only [List.cons.injEq, ints_inj, cells_inj, vars_inj, VD_inj, St_inj, PV.int.injEq, and_true, true_and] at h; simp only [h])
  have hT : TabOk Try.prog X.G [(13, h13), (20, h20), (17, h17), (18, h18), (21, h21), (16, h16)] := tk (fun l r e => by obtain ⟨a, ha, rfl, rfl⟩ := o13 l r e; exact ok13) (tk (fun l r e => by obtain ⟨a, ha, rfl, rfl⟩ := o20 l r e; exact ok20 (a)) (tk (fun l r e => by obtain ⟨a, ha, rfl, rfl⟩ := o17 l r e; exact ok17 (a.1) (a.2)) (tk (fun l r e => by obtain ⟨a, ha, rfl, rfl⟩ := o18 l r e; exact ok18 (a.1) (a.2) ha) (tk (fun l r e => by obtain ⟨a, ha, rfl, rfl⟩ := o21 l r e; exact ok21 (a.1) (a.2) ha) (tk (fun l r e => by obtain ⟨a, ha, rfl, rfl⟩ := o16 l r e; exact ok16 (a.1) (a.2) ha) tn)))))
  refine ⟨(tab X.sh [(13, h13), (20, h20), (17, h17), (18, h18), (21, h21), (16, h16)] []).iso, orcK hT, e13 () trivial, fun s  => e20 s trivial, fun l s  => e17 (l, s) trivial, fun l s hp => e18 (l, s) hp, fun a b hp => e21 (a, b) hp, fun a b hp => e16 (a, b) hp⟩
theorem sm_of {s : St} (h : sml s ≠ 0) : Sm s := by
  unfold sml at h
  split at h
  · rename_i q
    exact ⟨by rw [BB_eq]; omega, fun x hx => by have := q.2.2.2 x hx; rw [BB_eq]; omega, by rw [BB_eq]; omega, by rw [BB_eq]; omega⟩
  · exact absurd rfl h
theorem ok4 (l : List VD) (a : St) (b : St)  : Ok Try.prog X.G 4 [vars l, a.pv, b.pv] (.bool true) := by
  obtain ⟨iso, hC, e13, e20, e17, e18, e21, e16⟩ := la5
  refine wok env hC fd4 (t4 iso l a b) ?_ hhC
  simp only [Holds]
  refine ⟨?_, ?_⟩
  · exact pcallv_iso rfl rfl (e13)
  refine ⟨fun h0 => ?_, fun h0 => ?_⟩
  · have g0 := of_decide_eq_true h0
    try simp only [List.length_map] at g0
    exact fin_b rfl
  · have g0 := of_decide_eq_false h0
    try simp only [List.length_map] at g0
    refine ⟨?_, ?_⟩
    · exact pcallv_iso rfl rfl (e20 _)
    refine ⟨fun h1 => ?_, fun h1 => ?_⟩
    · have g1 := beq_iff_eq.1 h1
      try simp only [List.length_map] at g1
      exact fin_b rfl
    · have g1 := beq_eq_false_iff_ne.1 h1
      try simp only [List.length_map] at g1
      refine ⟨?_, ?_⟩
      · exact pcallv_iso rfl rfl (e20 _)
      refine ⟨fun h2 => ?_, fun h2 => ?_⟩
      · have g2 := beq_iff_eq.1 h2
        try simp only [List.length_map] at g2
        exact fin_b rfl
      · have g2 := beq_eq_false_iff_ne.1 h2
        try simp only [List.length_map] at g2
        refine ⟨fun h3 => ?_, fun h3 => ?_⟩
        · have g3 := h3
          refine ⟨?_, ?_⟩
          · (exact pcallD_iso rfl rfl (by rw [← h3]; exact e17 _ _))
          refine ⟨fun h4 => ?_, fun h4 => ?_⟩
          · have g4 := h4
            refine ⟨?_, ?_⟩
            · (exact pcallD_iso rfl rfl (by rw [← h4]; exact e18 _ _ (by rw [BB_eq]; omega)))
            refine ⟨fun h5 => ?_, fun h5 => ?_⟩
            · have g5 := of_decide_eq_true h5
              try simp only [List.length_map] at g5
              refine ⟨?_, ?_⟩
              · (exact pcallD_iso rfl rfl (by rw [← h5]; exact e21 _ _ (sm_of (by assumption))))
              refine ⟨fun h6 => ?_, fun h6 => ?_⟩
              · have g6 := of_decide_eq_true h6
                try simp only [List.length_map] at g6
                refine ⟨?_, ?_⟩
                · (exact pcallD_iso rfl rfl (by rw [← h6]; exact e16 _ _ (sm_of (by assumption))))
                refine ⟨fun h7 => ?_, fun h7 => ?_⟩
                · have g7 := of_decide_eq_true h7
                  try simp only [List.length_map] at g7
                  refine ⟨?_, ?_⟩
                  · (exact pcallD_iso rfl rfl (by rw [← h7]; exact e21 _ _ (sm_of (by assumption))))
                  refine ⟨fun h8 => ?_, fun h8 => ?_⟩
                  · have g8 := of_decide_eq_true h8
                    try simp only [List.length_map] at g8
                    refine ⟨?_, ?_⟩
                    · (exact pcallD_iso rfl rfl (by rw [← h8]; exact e16 _ _ (sm_of (by assumption))))
                    refine ⟨fun h9 => ?_, fun h9 => ?_⟩
                    · have g9 := of_decide_eq_true h9
                      try simp only [List.length_map] at g9
                      refine ⟨?_, ?_⟩
                      · (exact pcallD_iso rfl rfl (by rw [← h9]; exact (e21 _ _ (sm_of (by assumption))).trans (by simp)))
                      exact fin_b rfl
                    · have g9 := of_decide_eq_false h9
                      try simp only [List.length_map] at g9
                      refine ⟨?_, ?_⟩
                      · (exact pcallD_iso rfl rfl (by rw [← h9]; exact (e21 _ _ (sm_of (by assumption))).trans (by simp)))
                      (contradiction)
                  · have g8 := of_decide_eq_false h8
                    try simp only [List.length_map] at g8
                    refine ⟨?_, ?_⟩
                    · (exact pcallD_iso rfl rfl (by rw [← h8]; exact e16 _ _ (sm_of (by assumption))))
                    (contradiction)
                · have g7 := of_decide_eq_false h7
                  try simp only [List.length_map] at g7
                  refine ⟨?_, ?_⟩
                  · (exact pcallD_iso rfl rfl (by rw [← h7]; exact e21 _ _ (sm_of (by assumption))))
                  refine ⟨fun h10 => ?_, fun h10 => ?_⟩
                  · have g10 := of_decide_eq_true h10
                    try simp only [List.length_map] at g10
                    refine ⟨?_, ?_⟩
                    · (exact pcallD_iso rfl rfl (by rw [← h10]; exact e16 _ _ (sm_of (by assumption))))
                    ((simp_all; done))
                  · have g10 := of_decide_eq_false h10
                    try simp only [List.length_map] at g10
                    refine ⟨?_, ?_⟩
                    · (exact pcallD_iso rfl rfl (by rw [← h10]; exact e16 _ _ (sm_of (by assumption))))
                    refine ⟨fun h11 => ?_, fun h11 => ?_⟩
                    · have g11 := of_decide_eq_true h11
                      try simp only [List.length_map] at g11
                      refine ⟨?_, ?_⟩
                      · (exact pcallD_iso rfl rfl (by rw [← h11]; exact (e21 _ _ (sm_of (by assumption))).trans (by simp)))
                      exact fin_b rfl
                    · have g11 := of_decide_eq_false h11
                      try simp only [List.length_map] at g11
                      refine ⟨?_, ?_⟩
                      · (exact pcallD_iso rfl rfl (by rw [← h11]; exact (e21 _ _ (sm_of (by assumption))).trans (by simp)))
                      (contradiction)
              · have g6 := of_decide_eq_false h6
                try simp only [List.length_map] at g6
                refine ⟨?_, ?_⟩
                · (exact pcallD_iso rfl rfl (by rw [← h6]; exact e16 _ _ (sm_of (by assumption))))
                (contradiction)
            · have g5 := of_decide_eq_false h5
              try simp only [List.length_map] at g5
              refine ⟨?_, ?_⟩
              · (exact pcallD_iso rfl rfl (by rw [← h5]; exact e21 _ _ (sm_of (by assumption))))
              refine ⟨fun h12 => ?_, fun h12 => ?_⟩
              · have g12 := of_decide_eq_true h12
                try simp only [List.length_map] at g12
                refine ⟨?_, ?_⟩
                · (exact pcallD_iso rfl rfl (by rw [← h12]; exact e16 _ _ (sm_of (by assumption))))
                (contradiction)
              · have g12 := of_decide_eq_false h12
                try simp only [List.length_map] at g12
                refine ⟨?_, ?_⟩
                · (exact pcallD_iso rfl rfl (by rw [← h12]; exact e16 _ _ (sm_of (by assumption))))
                refine ⟨fun h13 => ?_, fun h13 => ?_⟩
                · have g13 := of_decide_eq_true h13
                  try simp only [List.length_map] at g13
                  refine ⟨?_, ?_⟩
                  · (exact pcallD_iso rfl rfl (by rw [← h13]; exact e21 _ _ (sm_of (by assumption))))
                  refine ⟨fun h14 => ?_, fun h14 => ?_⟩
                  · have g14 := of_decide_eq_true h14
                    try simp only [List.length_map] at g14
                    refine ⟨?_, ?_⟩
                    · (exact pcallD_iso rfl rfl (by rw [← h14]; exact e16 _ _ (sm_of (by assumption))))
                    refine ⟨fun h15 => ?_, fun h15 => ?_⟩
                    · have g15 := of_decide_eq_true h15
                      try simp only [List.length_map] at g15
                      refine ⟨?_, ?_⟩
                      · (exact pcallD_iso rfl rfl (by rw [← h15]; exact (e21 _ _ (sm_of (by assumption))).trans (by simp)))
                      exact fin_b rfl
                    · have g15 := of_decide_eq_false h15
                      try simp only [List.length_map] at g15
                      refine ⟨?_, ?_⟩
                      · (exact pcallD_iso rfl rfl (by rw [← h15]; exact (e21 _ _ (sm_of (by assumption))).trans (by simp)))
                      (contradiction)
                  · have g14 := of_decide_eq_false h14
                    try simp only [List.length_map] at g14
                    refine ⟨?_, ?_⟩
                    · (exact pcallD_iso rfl rfl (by rw [← h14]; exact e16 _ _ (sm_of (by assumption))))
                    ((simp_all; done))
                · have g13 := of_decide_eq_false h13
                  try simp only [List.length_map] at g13
                  refine ⟨?_, ?_⟩
                  · (exact pcallD_iso rfl rfl (by rw [← h13]; exact e21 _ _ (sm_of (by assumption))))
                  refine ⟨fun h16 => ?_, fun h16 => ?_⟩
                  · have g16 := of_decide_eq_true h16
                    try simp only [List.length_map] at g16
                    refine ⟨?_, ?_⟩
                    · (exact pcallD_iso rfl rfl (by rw [← h16]; exact e16 _ _ (sm_of (by assumption))))
                    (contradiction)
                  · have g16 := of_decide_eq_false h16
                    try simp only [List.length_map] at g16
                    refine ⟨?_, ?_⟩
                    · (exact pcallD_iso rfl rfl (by rw [← h16]; exact e16 _ _ (sm_of (by assumption))))
                    refine ⟨fun h17 => ?_, fun h17 => ?_⟩
                    · have g17 := of_decide_eq_true h17
                      try simp only [List.length_map] at g17
                      refine ⟨?_, ?_⟩
                      · (exact pcallD_iso rfl rfl (by rw [← h17]; exact (e21 _ _ (sm_of (by assumption))).trans (by simp)))
                      exact fin_b rfl
                    · have g17 := of_decide_eq_false h17
                      try simp only [List.length_map] at g17
                      refine ⟨?_, ?_⟩
                      · (exact pcallD_iso rfl rfl (by rw [← h17]; exact (e21 _ _ (sm_of (by assumption))).trans (by simp)))
                      (contradiction)
          · have g4 := h4
            refine ⟨?_, ?_⟩
            · (exact pcallD_iso rfl rfl (by rw [← h4]; exact e18 _ _ (by rw [BB_eq]; omega)))
            ((simp_all; done))
        · have g3 := h3
          refine ⟨?_, ?_⟩
          · (exact pcallD_iso rfl rfl (by rw [← h3]; exact e17 _ _))
          refine ⟨fun h18 => ?_, fun h18 => ?_⟩
          · have g18 := h18
            refine ⟨?_, ?_⟩
            · (exact pcallD_iso rfl rfl (by rw [← h18]; exact e18 _ _ (by rw [BB_eq]; omega)))
            ((simp_all; done))
          · have g18 := h18
            refine ⟨?_, ?_⟩
            · (exact pcallD_iso rfl rfl (by rw [← h18]; exact e18 _ _ (by rw [BB_eq]; omega)))
            refine ⟨fun h19 => ?_, fun h19 => ?_⟩
            · have g19 := of_decide_eq_true h19
              try simp only [List.length_map] at g19
              refine ⟨?_, ?_⟩
              · (exact pcallD_iso rfl rfl (by rw [← h19]; exact e21 _ _ (sm_of (by assumption))))
              refine ⟨fun h20 => ?_, fun h20 => ?_⟩
              · have g20 := of_decide_eq_true h20
                try simp only [List.length_map] at g20
                refine ⟨?_, ?_⟩
                · (exact pcallD_iso rfl rfl (by rw [← h20]; exact e16 _ _ (sm_of (by assumption))))
                refine ⟨fun h21 => ?_, fun h21 => ?_⟩
                · have g21 := of_decide_eq_true h21
                  try simp only [List.length_map] at g21
                  refine ⟨?_, ?_⟩
                  · (exact pcallD_iso rfl rfl (by rw [← h21]; exact e21 _ _ (sm_of (by assumption))))
                  refine ⟨fun h22 => ?_, fun h22 => ?_⟩
                  · have g22 := of_decide_eq_true h22
                    try simp only [List.length_map] at g22
                    refine ⟨?_, ?_⟩
                    · (exact pcallD_iso rfl rfl (by rw [← h22]; exact e16 _ _ (sm_of (by assumption))))
                    refine ⟨fun h23 => ?_, fun h23 => ?_⟩
                    · have g23 := of_decide_eq_true h23
                      try simp only [List.length_map] at g23
                      refine ⟨?_, ?_⟩
                      · (exact pcallD_iso rfl rfl (by rw [← h23]; exact (e21 _ _ (sm_of (by assumption))).trans (by simp)))
                      exact fin_b rfl
                    · have g23 := of_decide_eq_false h23
                      try simp only [List.length_map] at g23
                      refine ⟨?_, ?_⟩
                      · (exact pcallD_iso rfl rfl (by rw [← h23]; exact (e21 _ _ (sm_of (by assumption))).trans (by simp)))
                      (contradiction)
                  · have g22 := of_decide_eq_false h22
                    try simp only [List.length_map] at g22
                    refine ⟨?_, ?_⟩
                    · (exact pcallD_iso rfl rfl (by rw [← h22]; exact e16 _ _ (sm_of (by assumption))))
                    (contradiction)
                · have g21 := of_decide_eq_false h21
                  try simp only [List.length_map] at g21
                  refine ⟨?_, ?_⟩
                  · (exact pcallD_iso rfl rfl (by rw [← h21]; exact e21 _ _ (sm_of (by assumption))))
                  refine ⟨fun h24 => ?_, fun h24 => ?_⟩
                  · have g24 := of_decide_eq_true h24
                    try simp only [List.length_map] at g24
                    refine ⟨?_, ?_⟩
                    · (exact pcallD_iso rfl rfl (by rw [← h24]; exact e16 _ _ (sm_of (by assumption))))
                    ((simp_all; done))
                  · have g24 := of_decide_eq_false h24
                    try simp only [List.length_map] at g24
                    refine ⟨?_, ?_⟩
                    · (exact pcallD_iso rfl rfl (by rw [← h24]; exact e16 _ _ (sm_of (by assumption))))
                    refine ⟨fun h25 => ?_, fun h25 => ?_⟩
                    · have g25 := of_decide_eq_true h25
                      try simp only [List.length_map] at g25
                      refine ⟨?_, ?_⟩
                      · (exact pcallD_iso rfl rfl (by rw [← h25]; exact (e21 _ _ (sm_of (by assumption))).trans (by simp)))
                      exact fin_b rfl
                    · have g25 := of_decide_eq_false h25
                      try simp only [List.length_map] at g25
                      refine ⟨?_, ?_⟩
                      · (exact pcallD_iso rfl rfl (by rw [← h25]; exact (e21 _ _ (sm_of (by assumption))).trans (by simp)))
                      (contradiction)
              · have g20 := of_decide_eq_false h20
                try simp only [List.length_map] at g20
                refine ⟨?_, ?_⟩
                · (exact pcallD_iso rfl rfl (by rw [← h20]; exact e16 _ _ (sm_of (by assumption))))
                (contradiction)
            · have g19 := of_decide_eq_false h19
              try simp only [List.length_map] at g19
              refine ⟨?_, ?_⟩
              · (exact pcallD_iso rfl rfl (by rw [← h19]; exact e21 _ _ (sm_of (by assumption))))
              refine ⟨fun h26 => ?_, fun h26 => ?_⟩
              · have g26 := of_decide_eq_true h26
                try simp only [List.length_map] at g26
                refine ⟨?_, ?_⟩
                · (exact pcallD_iso rfl rfl (by rw [← h26]; exact e16 _ _ (sm_of (by assumption))))
                (contradiction)
              · have g26 := of_decide_eq_false h26
                try simp only [List.length_map] at g26
                refine ⟨?_, ?_⟩
                · (exact pcallD_iso rfl rfl (by rw [← h26]; exact e16 _ _ (sm_of (by assumption))))
                refine ⟨fun h27 => ?_, fun h27 => ?_⟩
                · have g27 := of_decide_eq_true h27
                  try simp only [List.length_map] at g27
                  refine ⟨?_, ?_⟩
                  · (exact pcallD_iso rfl rfl (by rw [← h27]; exact e21 _ _ (sm_of (by assumption))))
                  refine ⟨fun h28 => ?_, fun h28 => ?_⟩
                  · have g28 := of_decide_eq_true h28
                    try simp only [List.length_map] at g28
                    refine ⟨?_, ?_⟩
                    · (exact pcallD_iso rfl rfl (by rw [← h28]; exact e16 _ _ (sm_of (by assumption))))
                    refine ⟨fun h29 => ?_, fun h29 => ?_⟩
                    · have g29 := of_decide_eq_true h29
                      try simp only [List.length_map] at g29
                      refine ⟨?_, ?_⟩
                      · (exact pcallD_iso rfl rfl (by rw [← h29]; exact (e21 _ _ (sm_of (by assumption))).trans (by simp)))
                      exact fin_b rfl
                    · have g29 := of_decide_eq_false h29
                      try simp only [List.length_map] at g29
                      refine ⟨?_, ?_⟩
                      · (exact pcallD_iso rfl rfl (by rw [← h29]; exact (e21 _ _ (sm_of (by assumption))).trans (by simp)))
                      (contradiction)
                  · have g28 := of_decide_eq_false h28
                    try simp only [List.length_map] at g28
                    refine ⟨?_, ?_⟩
                    · (exact pcallD_iso rfl rfl (by rw [← h28]; exact e16 _ _ (sm_of (by assumption))))
                    ((simp_all; done))
                · have g27 := of_decide_eq_false h27
                  try simp only [List.length_map] at g27
                  refine ⟨?_, ?_⟩
                  · (exact pcallD_iso rfl rfl (by rw [← h27]; exact e21 _ _ (sm_of (by assumption))))
                  refine ⟨fun h30 => ?_, fun h30 => ?_⟩
                  · have g30 := of_decide_eq_true h30
                    try simp only [List.length_map] at g30
                    refine ⟨?_, ?_⟩
                    · (exact pcallD_iso rfl rfl (by rw [← h30]; exact e16 _ _ (sm_of (by assumption))))
                    (contradiction)
                  · have g30 := of_decide_eq_false h30
                    try simp only [List.length_map] at g30
                    refine ⟨?_, ?_⟩
                    · (exact pcallD_iso rfl rfl (by rw [← h30]; exact e16 _ _ (sm_of (by assumption))))
                    refine ⟨fun h31 => ?_, fun h31 => ?_⟩
                    · have g31 := of_decide_eq_true h31
                      try simp only [List.length_map] at g31
                      refine ⟨?_, ?_⟩
                      · (exact pcallD_iso rfl rfl (by rw [← h31]; exact (e21 _ _ (sm_of (by assumption))).trans (by simp)))
                      exact fin_b rfl
                    · have g31 := of_decide_eq_false h31
                      try simp only [List.length_map] at g31
                      refine ⟨?_, ?_⟩
                      · (exact pcallD_iso rfl rfl (by rw [← h31]; exact (e21 _ _ (sm_of (by assumption))).trans (by simp)))
                      (contradiction)
end Go.Proofs.Ytmkpdbofhpffaaa
