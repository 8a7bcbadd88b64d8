/- A new machine fits. -/
import Derived.Test.YtfhojpnofmlkdaaDoorCd
namespace Go.Proofs.YtfhojpnofmlkdaaDoor
open Go.Proofs.YtfhojpnofmlkdaaDoor.Pv Go.RowKit
set_option maxRecDepth 100000
set_option maxHeartbeats 4000000
set_option linter.unusedSimpArgs false
set_option linter.unusedVariables false
set_option maxHeartbeats 2000000
theorem lg1 : ∃ (iso : Nat → List PV → Option PV) (shr : Nat → List PV → List Pv.Box → Option (PV × List Pv.Box)), OrcOk Tryd.prog X.G ⟨iso, shr, ownS X.sh, []⟩ ∧ (iso 12 [] = some (.bool true)) ∧ (∀ (l : List Ins) (m : Int) (s : Int), (WF l ∧ l.length ≤ 300) → iso 25 [imgP l m s] = some (.bool (ckE l m s == 0))) ∧ (∀ (l : List Ins) (m : Int) (s : Int) (i : List Int), ((WF l ∧ l.length ≤ 300) ∧ i.length ≤ 5000) → iso 26 [imgP l m s, nums i] = some (.tup [(newM l m s i).pv, J (newE l m s i)])) ∧ (∀ (a : Mc) (b : Arg), (Sm a) → iso 17 [a.pv, b.pv] = some (.bool (decide (a = b.mc)))) ∧ (∀ (l : List Ins) (m : Int) (s : Int) (x : Mc), ((WF l ∧ l.length ≤ 300) ∧ Sm x) → shr 20 [imgP l m s, .ptr 0 0] [mbx x] = some (.bool ((ckE l m s == 0) && fitM l m s x), [mbx x])) := by
  obtain ⟨h12, e12, o12⟩ := ent_ex (fun q : Unit => True) (fun q => ([], .bool true)) (fun a b h => by simp only [List.cons.injEq, nums_inj, stks_inj, acts_inj, Mc_inj, imgP_inj, mbx_inj, PV.int.injEq, ArgPv_inj, and_true, true_and] at h; first | rfl | (simp only [h]; done) | (simp [h]; done))
  obtain ⟨h25, e25, o25⟩ := ent_ex (fun q : (List Ins) × (Int) × (Int) => WF (q.1) ∧ (q.1).length ≤ 300) (fun q => ([imgP (q.1) (q.2.1) (q.2.2)], .bool (ckE (q.1) (q.2.1) (q.2.2) == 0))) (fun a b h => by simp only [List.cons.injEq, nums_inj, stks_inj, acts_inj, Mc_inj, imgP_inj, mbx_inj, PV.int.injEq, ArgPv_inj, and_true, true_and] at h; first | rfl | (simp only [h]; done) | (simp [h]; done))
  obtain ⟨h26, e26, o26⟩ := ent_ex (fun q : (List Ins) × (Int) × (Int) × (List Int) => (WF (q.1) ∧ (q.1).length ≤ 300) ∧ (q.2.2.2).length ≤ 5000) (fun q => ([imgP (q.1) (q.2.1) (q.2.2.1), nums (q.2.2.2)], .tup [(newM (q.1) (q.2.1) (q.2.2.1) (q.2.2.2)).pv, J (newE (q.1) (q.2.1) (q.2.2.1) (q.2.2.2))])) (fun a b h => by simp only [List.cons.injEq, nums_inj, stks_inj, acts_inj, Mc_inj, imgP_inj, mbx_inj, PV.int.injEq, ArgPv_inj, and_true, true_and] at h; first | rfl | (simp only [h]; done) | (simp [h]; done))
  obtain ⟨h17, e17, o17⟩ := ent_ex (fun q : (Mc) × (Arg) => Sm (q.1)) (fun q => ([(q.1).pv, (q.2).pv], .bool (decide ((q.1) = (q.2).mc)))) (fun a b h => by simp only [List.cons.injEq, nums_inj, stks_inj, acts_inj, Mc_inj, imgP_inj, mbx_inj, PV.int.injEq, ArgPv_inj, and_true, true_and] at h; first | rfl | (simp only [h]; done) | (simp [h]; done))
  obtain ⟨h20, e20, o20⟩ := entS_ex (fun q : (List Ins) × (Int) × (Int) × (Mc) => (WF (q.1) ∧ (q.1).length ≤ 300) ∧ Sm (q.2.2.2)) (fun q => (([imgP (q.1) (q.2.1) (q.2.2.1), .ptr 0 0], [mbx (q.2.2.2)]), (.bool ((ckE (q.1) (q.2.1) (q.2.2.1) == 0) && fitM (q.1) (q.2.1) (q.2.2.1) (q.2.2.2)), [mbx (q.2.2.2)]))) (fun a b h => by simp only [Prod.mk.injEq, List.cons.injEq, nums_inj, stks_inj, acts_inj, Mc_inj, imgP_inj, mbx_inj, PV.int.injEq, ArgPv_inj, and_true, true_and] at h; first | rfl | (simp only [h]; done) | (simp [h]; done))
  have hT : TabOk Tryd.prog X.G [(12, h12), (25, h25), (26, h26), (17, h17)] := tk (fun l r e => by obtain ⟨a, ha, rfl, rfl⟩ := o12 l r e; exact ok12) (tk (fun l r e => by obtain ⟨a, ha, rfl, rfl⟩ := o25 l r e; exact okw25 (a.1) (a.2.1) (a.2.2) ha.1 ha.2) (tk (fun l r e => by obtain ⟨a, ha, rfl, rfl⟩ := o26 l r e; exact ok26 (a.1) (a.2.1) (a.2.2.1) (a.2.2.2) ha.1 ha.2) (tk (fun l r e => by obtain ⟨a, ha, rfl, rfl⟩ := o17 l r e; exact ok17A (a.1) (a.2) ha) tn)))
  have hS : TabSOk Tryd.prog X.G [(20, h20)] := tkS (fun al hp r e' => by
    obtain ⟨a, ha, hb, rfl⟩ := o20 al hp r e'
    simp only [Prod.mk.injEq] at hb
    obtain ⟨rfl, rfl⟩ := hb
    exact sh20 (a.1) (a.2.1) (a.2.2.1) (a.2.2.2) ha.1 ha.2) tn'
  exact ⟨_, _, orcS hT hS, e12 () trivial, fun l m s hp => e25 (l, m, s) hp, fun l m s i hp => e26 (l, m, s, i) hp, fun a b hp => e17 (a, b) hp, fun l m s x hp => e20 (l, m, s, x) hp⟩
theorem fz_mc {d : Nat} {hp : List Pv.Box} (x : Mc) : fz (d + 3) hp x.pv = some (x.pv, hp) := by
  have h := fz_agg1 (d := d + 2) (fzL_pre (f := fz (d + 2)) (hp := hp) (hp' := hp) (rest := []) (rest' := []) x.cs (fun c hc => ?_) rfl)
  · rw [List.append_nil] at h; exact h
  · simp only [Mc.cs, List.mem_cons, List.not_mem_nil, or_false] at hc
    rcases hc with rfl | rfl | rfl | rfl | rfl | rfl | rfl | rfl | rfl | rfl | rfl | rfl | rfl | rfl | rfl | rfl | rfl | rfl | rfl | rfl | rfl | rfl | rfl | rfl | rfl <;> rfl
theorem call_w {C : Orc} {hp : List Pv.Box} {x : Mc} {m s : Nat} {i : List Int} {r : Bool} (hs : C.sh 17 = false) (ha : hp[2]? = some ⟨1, rep m [J 0], 0⟩) (hb : hp[3]? = some ⟨1, rep s [.nils], 0⟩) (hc : C.iso 17 [x.pv, wN m s i] = some (.bool r)) :
    pcallv C (.fn 17 []) [x.pv, .agg ([J 0, J 1, J 0, J 0, J 0, J 0, J 0, J 0, J 0, J 0, J 0, J 0, J 0, J 0, J 0, J 0, J 0, J 0] ++ [.sl 2 1 0 m, .sl 3 1 0 s, .nils, J 0, J 0, nums i, .nils])] hp = some (.bool r, hp) :=
  pcallv_fz hs rfl (fzL_one (fz_mc (d := 3) x) (fzL_one (fzW (d := 3) (by decide) ha hb) rfl)) hc rfl
theorem fit_new {l : List Ins} {m s : Int} {i : List Int} (h : ckE l m s = 0) (hi : i.length ≤ 4096) : fitM l m s (newM l m s i) = true := by
  have hr := ck_rng h
  rw [(new_ok h hi).1]
  have e := fit_4 (l := l) (m := m) (s := s) (x := wantM m.toNat s.toNat i) (by
    show (((1 : Int) = 1 ∨ (1 : Int) = -1) ∧ (0 : Int) ≤ 0 ∧ (0 : Int) ≤ (l.length : Int) ∧ ((List.replicate m.toNat (0 : Int)).length : Int) = m ∧ ((List.replicate s.toNat ([] : List Int)).length : Int) = s ∧ 0 < (List.replicate s.toNat ([] : List Int)).length)
    rw [List.length_replicate, List.length_replicate]; omega) (fun j hj => by
    have hm : ∀ c ∈ (List.replicate s.toNat ([] : List Int)).drop 1, c.length ≤ 1000 := fun c hc => by rw [List.eq_of_mem_replicate (List.mem_of_mem_drop hc)]; decide
    exact decide_eq_true (getD_all (p := fun c : List Int => c.length ≤ 1000) hm (by decide))) (fun j hj => absurd hj (Nat.not_lt_zero _))
  rw [← e]
  refine decide_eq_true ?_
  show (0 ≤ 100 ∧ i.length ≤ 4096 ∧ 0 ≤ 4096 ∧ (0 : Int) ≤ 0 ∧ (0 : Int) ≤ m ∧ (0 : Int) ≤ 0 ∧ (0 : Int) ≤ s)
  omega
theorem ok9  (l : List Ins) (m : Int) (s : Int) (i : List Int) (hw : WF l) : Ok Tryd.prog X.G 9 [imgP l m s, nums i] (.bool true) := by
  obtain ⟨iso, shr, hC, e12, e25, e26, e17, e20⟩ := lg1
  have hr := @ck_rng l m s
  have hnb := @new_bad l m s i
  have hnl := @new_long l m s i
  have hno := @new_ok l m s i
  have hft := @fit_new l m s i
  refine wok env hC fd9 (t9 iso shr l m s i) ?_ hhS
  simp only [Holds]
  refine ⟨?_, ?_⟩
  · first | (exact pcallv_iso rfl rfl (e12); done) | (first | omega | contradiction | (exact absurd (hnb (by assumption)).2 (by assumption)) | (exact absurd (hnl (by assumption) (by omega)).2 (by assumption)) | (exact absurd (hno (by assumption) (by omega)).2 (by assumption)) | (have := hft (by assumption) (by omega); simp_all; done) | (simp_all; done); done)
  refine ⟨fun h0 => ?_, fun h0 => ?_⟩
  · have g0 := of_decide_eq_true h0
    try simp only [List.length_map] at g0
    refine ⟨?_, ?_⟩
    · first | (exact pcallv_iso rfl rfl (by rw [← h0]; exact e12); done) | (exact pcallv_iso rfl rfl (e12); done) | (first | omega | contradiction | (exact absurd (hnb (by assumption)).2 (by assumption)) | (exact absurd (hnl (by assumption) (by omega)).2 (by assumption)) | (exact absurd (hno (by assumption) (by omega)).2 (by assumption)) | (have := hft (by assumption) (by omega); simp_all; done) | (simp_all; done); done)
    first | (exact fin_b rfl; done) | (first | omega | contradiction | (exact absurd (hnb (by assumption)).2 (by assumption)) | (exact absurd (hnl (by assumption) (by omega)).2 (by assumption)) | (exact absurd (hno (by assumption) (by omega)).2 (by assumption)) | (have := hft (by assumption) (by omega); simp_all; done) | (simp_all; done); done)
  · have g0 := of_decide_eq_false h0
    try simp only [List.length_map] at g0
    refine ⟨fun h1 => ?_, fun h1 => ?_⟩
    · have g1 := of_decide_eq_true h1
      try simp only [List.length_map] at g1
      refine ⟨?_, ?_⟩
      · first | (exact pcallv_iso rfl rfl (by rw [← h1]; exact e12); done) | (exact pcallv_iso rfl rfl (e12); done) | (first | omega | contradiction | (exact absurd (hnb (by assumption)).2 (by assumption)) | (exact absurd (hnl (by assumption) (by omega)).2 (by assumption)) | (exact absurd (hno (by assumption) (by omega)).2 (by assumption)) | (have := hft (by assumption) (by omega); simp_all; done) | (simp_all; done); done)
      first | (exact fin_b rfl; done) | (first | omega | contradiction | (exact absurd (hnb (by assumption)).2 (by assumption)) | (exact absurd (hnl (by assumption) (by omega)).2 (by assumption)) | (exact absurd (hno (by assumption) (by omega)).2 (by assumption)) | (have := hft (by assumption) (by omega); simp_all; done) | (simp_all; done); done)
    · have g1 := of_decide_eq_false h1
      try simp only [List.length_map] at g1
      refine ⟨fun h2 => ?_, fun h2 => ?_⟩
      · have g2 := of_decide_eq_true h2
        try simp only [List.length_map] at g2
        refine ⟨?_, ?_⟩
        · first | (exact pcallv_iso rfl rfl (by rw [← h2]; exact e12); done) | (exact pcallv_iso rfl rfl (e12); done) | (first | omega | contradiction | (exact absurd (hnb (by assumption)).2 (by assumption)) | (exact absurd (hnl (by assumption) (by omega)).2 (by assumption)) | (exact absurd (hno (by assumption) (by omega)).2 (by assumption)) | (have := hft (by assumption) (by omega); simp_all; done) | (simp_all; done); done)
        first | (exact fin_b rfl; done) | (first | omega | contradiction | (exact absurd (hnb (by assumption)).2 (by assumption)) | (exact absurd (hnl (by assumption) (by omega)).2 (by assumption)) | (exact absurd (hno (by assumption) (by omega)).2 (by assumption)) | (have := hft (by assumption) (by omega); simp_all; done) | (simp_all; done); done)
      · have g2 := of_decide_eq_false h2
        try simp only [List.length_map] at g2
        refine ⟨fun h3 => ?_, fun h3 => ?_⟩
        · have g3 := of_decide_eq_true h3
          try simp only [List.length_map] at g3
          refine ⟨?_, ?_⟩
          · first | (exact pcallv_iso rfl rfl (by rw [← h3]; exact e12); done) | (exact pcallv_iso rfl rfl (e12); done) | (first | omega | contradiction | (exact absurd (hnb (by assumption)).2 (by assumption)) | (exact absurd (hnl (by assumption) (by omega)).2 (by assumption)) | (exact absurd (hno (by assumption) (by omega)).2 (by assumption)) | (have := hft (by assumption) (by omega); simp_all; done) | (simp_all; done); done)
          first | (exact fin_b rfl; done) | (first | omega | contradiction | (exact absurd (hnb (by assumption)).2 (by assumption)) | (exact absurd (hnl (by assumption) (by omega)).2 (by assumption)) | (exact absurd (hno (by assumption) (by omega)).2 (by assumption)) | (have := hft (by assumption) (by omega); simp_all; done) | (simp_all; done); done)
        · have g3 := of_decide_eq_false h3
          try simp only [List.length_map] at g3
          refine ⟨?_, ?_⟩
          · first | (exact pcallv_iso rfl rfl (by rw [← h3]; exact e26 _ _ _ _ ⟨⟨hw, by omega⟩, by omega⟩); done) | (exact pcallv_iso rfl rfl (e26 _ _ _ _ ⟨⟨hw, by omega⟩, by omega⟩); done) | (first | omega | contradiction | (exact absurd (hnb (by assumption)).2 (by assumption)) | (exact absurd (hnl (by assumption) (by omega)).2 (by assumption)) | (exact absurd (hno (by assumption) (by omega)).2 (by assumption)) | (have := hft (by assumption) (by omega); simp_all; done) | (simp_all; done); done)
          refine ⟨fun h4 => ?_, fun h4 => ?_⟩
          · have g4 := beq_iff_eq.1 h4
            try simp only [List.length_map] at g4
            refine ⟨?_, ?_⟩
            · first | (exact pcallv_iso rfl rfl (by rw [← h4]; exact e25 _ _ _ ⟨hw, by omega⟩); done) | (exact pcallv_iso rfl rfl (e25 _ _ _ ⟨hw, by omega⟩); done) | (first | omega | contradiction | (exact absurd (hnb (by assumption)).2 (by assumption)) | (exact absurd (hnl (by assumption) (by omega)).2 (by assumption)) | (exact absurd (hno (by assumption) (by omega)).2 (by assumption)) | (have := hft (by assumption) (by omega); simp_all; done) | (simp_all; done); done)
            refine ⟨fun h5 => ?_, fun h5 => ?_⟩
            · have g5 := of_decide_eq_true h5
              try simp only [List.length_map] at g5
              refine ⟨fun h6 => ?_, fun h6 => ?_⟩
              · have g6 := beq_iff_eq.1 h6
                try simp only [List.length_map] at g6
                refine ⟨?_, ?_⟩
                · first | (exact pcallv_iso rfl rfl ((e17 _ (.zero) (new_sm (by omega))).trans (congrArg (fun b => some (PV.bool b)) (decide_eq_true ((hnb (by assumption)).1)))); done) | (exact pcallv_iso rfl rfl ((e17 _ (.zero) (new_sm (by omega))).trans (congrArg (fun b => some (PV.bool b)) (decide_eq_true ((hnl (by assumption) (by omega)).1)))); done) | (exact call_w rfl rfl rfl ((e17 _ (.want _ _ _) (new_sm (by omega))).trans (congrArg (fun b => some (PV.bool b)) (decide_eq_true (hno (by assumption) (by omega)).1))); done) | (first | omega | contradiction | (exact absurd (hnb (by assumption)).2 (by assumption)) | (exact absurd (hnl (by assumption) (by omega)).2 (by assumption)) | (exact absurd (hno (by assumption) (by omega)).2 (by assumption)) | (have := hft (by assumption) (by omega); simp_all; done) | (simp_all; done); done)
                first | (exact fin_b rfl; done) | (first | omega | contradiction | (exact absurd (hnb (by assumption)).2 (by assumption)) | (exact absurd (hnl (by assumption) (by omega)).2 (by assumption)) | (exact absurd (hno (by assumption) (by omega)).2 (by assumption)) | (have := hft (by assumption) (by omega); simp_all; done) | (simp_all; done); done)
              · have g6 := beq_eq_false_iff_ne.1 h6
                try simp only [List.length_map] at g6
                first | (exact fin_b rfl; done) | (first | omega | contradiction | (exact absurd (hnb (by assumption)).2 (by assumption)) | (exact absurd (hnl (by assumption) (by omega)).2 (by assumption)) | (exact absurd (hno (by assumption) (by omega)).2 (by assumption)) | (have := hft (by assumption) (by omega); simp_all; done) | (simp_all; done); done)
            · have g5 := of_decide_eq_false h5
              try simp only [List.length_map] at g5
              refine ⟨?_, ?_⟩
              · first | (exact mkM rfl (hr (by assumption)).1 (hr (by assumption)).2.1; done) | (exact mkS rfl (hr (by assumption)).2.2.1 (hr (by assumption)).2.2.2; done) | (exact px26 (by omega); done) | (exact px27 (by omega); done) | (exact px28 (by omega); done) | (first | omega | contradiction | (exact absurd (hnb (by assumption)).2 (by assumption)) | (exact absurd (hnl (by assumption) (by omega)).2 (by assumption)) | (exact absurd (hno (by assumption) (by omega)).2 (by assumption)) | (have := hft (by assumption) (by omega); simp_all; done) | (simp_all; done); done)
              refine ⟨?_, ?_⟩
              · first | (exact mkM rfl (hr (by assumption)).1 (hr (by assumption)).2.1; done) | (exact mkS rfl (hr (by assumption)).2.2.1 (hr (by assumption)).2.2.2; done) | (exact px26 (by omega); done) | (exact px27 (by omega); done) | (exact px28 (by omega); done) | (first | omega | contradiction | (exact absurd (hnb (by assumption)).2 (by assumption)) | (exact absurd (hnl (by assumption) (by omega)).2 (by assumption)) | (exact absurd (hno (by assumption) (by omega)).2 (by assumption)) | (have := hft (by assumption) (by omega); simp_all; done) | (simp_all; done); done)
              refine ⟨fun h7 => ?_, fun h7 => ?_⟩
              · have g7 := beq_iff_eq.1 h7
                try simp only [List.length_map] at g7
                refine ⟨?_, ?_⟩
                · first | (exact pcallv_iso rfl rfl ((e17 _ (.zero) (new_sm (by omega))).trans (congrArg (fun b => some (PV.bool b)) (decide_eq_true ((hnb (by assumption)).1)))); done) | (exact pcallv_iso rfl rfl ((e17 _ (.zero) (new_sm (by omega))).trans (congrArg (fun b => some (PV.bool b)) (decide_eq_true ((hnl (by assumption) (by omega)).1)))); done) | (exact call_w rfl rfl rfl ((e17 _ (.want _ _ _) (new_sm (by omega))).trans (congrArg (fun b => some (PV.bool b)) (decide_eq_true (hno (by assumption) (by omega)).1))); done) | (first | omega | contradiction | (exact absurd (hnb (by assumption)).2 (by assumption)) | (exact absurd (hnl (by assumption) (by omega)).2 (by assumption)) | (exact absurd (hno (by assumption) (by omega)).2 (by assumption)) | (have := hft (by assumption) (by omega); simp_all; done) | (simp_all; done); done)
                refine ⟨fun h8 => ?_, fun h8 => ?_⟩
                · have g8 := h8
                  refine ⟨?_, ?_⟩
                  · first | (exact pcallv_img (i := 1) (x := newM l m s i) (x' := newM l m s i) rfl rfl rfl ((e20 _ _ _ _ ⟨⟨hw, by omega⟩, new_sm (by omega)⟩).trans (congrArg (fun b => some (PV.bool b, [mbx (newM l m s i)])) (by assumption))); done) | (first | omega | contradiction | (exact absurd (hnb (by assumption)).2 (by assumption)) | (exact absurd (hnl (by assumption) (by omega)).2 (by assumption)) | (exact absurd (hno (by assumption) (by omega)).2 (by assumption)) | (have := hft (by assumption) (by omega); simp_all; done) | (simp_all; done); done)
                  first | (exact fin_b rfl; done) | (first | omega | contradiction | (exact absurd (hnb (by assumption)).2 (by assumption)) | (exact absurd (hnl (by assumption) (by omega)).2 (by assumption)) | (exact absurd (hno (by assumption) (by omega)).2 (by assumption)) | (have := hft (by assumption) (by omega); simp_all; done) | (simp_all; done); done)
                · have g8 := h8
                  refine ⟨?_, ?_⟩
                  · first | (exact pcallv_img (i := 1) (x := newM l m s i) (x' := newM l m s i) rfl rfl rfl ((e20 _ _ _ _ ⟨⟨hw, by omega⟩, new_sm (by omega)⟩).trans (congrArg (fun b => some (PV.bool b, [mbx (newM l m s i)])) (by assumption))); done) | (first | omega | contradiction | (exact absurd (hnb (by assumption)).2 (by assumption)) | (exact absurd (hnl (by assumption) (by omega)).2 (by assumption)) | (exact absurd (hno (by assumption) (by omega)).2 (by assumption)) | (have := hft (by assumption) (by omega); simp_all; done) | (simp_all; done); done)
                  first | (exact fin_b rfl; done) | (first | omega | contradiction | (exact absurd (hnb (by assumption)).2 (by assumption)) | (exact absurd (hnl (by assumption) (by omega)).2 (by assumption)) | (exact absurd (hno (by assumption) (by omega)).2 (by assumption)) | (have := hft (by assumption) (by omega); simp_all; done) | (simp_all; done); done)
              · have g7 := beq_eq_false_iff_ne.1 h7
                try simp only [List.length_map] at g7
                first | (exact fin_b rfl; done) | (first | omega | contradiction | (exact absurd (hnb (by assumption)).2 (by assumption)) | (exact absurd (hnl (by assumption) (by omega)).2 (by assumption)) | (exact absurd (hno (by assumption) (by omega)).2 (by assumption)) | (have := hft (by assumption) (by omega); simp_all; done) | (simp_all; done); done)
          · have g4 := beq_eq_false_iff_ne.1 h4
            try simp only [List.length_map] at g4
            refine ⟨?_, ?_⟩
            · first | (exact pcallv_iso rfl rfl (by rw [← h4]; exact e25 _ _ _ ⟨hw, by omega⟩); done) | (exact pcallv_iso rfl rfl (e25 _ _ _ ⟨hw, by omega⟩); done) | (first | omega | contradiction | (exact absurd (hnb (by assumption)).2 (by assumption)) | (exact absurd (hnl (by assumption) (by omega)).2 (by assumption)) | (exact absurd (hno (by assumption) (by omega)).2 (by assumption)) | (have := hft (by assumption) (by omega); simp_all; done) | (simp_all; done); done)
            refine ⟨fun h9 => ?_, fun h9 => ?_⟩
            · have g9 := beq_iff_eq.1 h9
              try simp only [List.length_map] at g9
              refine ⟨?_, ?_⟩
              · first | (exact pcallv_iso rfl rfl ((e17 _ (.zero) (new_sm (by omega))).trans (congrArg (fun b => some (PV.bool b)) (decide_eq_true ((hnb (by assumption)).1)))); done) | (exact pcallv_iso rfl rfl ((e17 _ (.zero) (new_sm (by omega))).trans (congrArg (fun b => some (PV.bool b)) (decide_eq_true ((hnl (by assumption) (by omega)).1)))); done) | (exact call_w rfl rfl rfl ((e17 _ (.want _ _ _) (new_sm (by omega))).trans (congrArg (fun b => some (PV.bool b)) (decide_eq_true (hno (by assumption) (by omega)).1))); done) | (first | omega | contradiction | (exact absurd (hnb (by assumption)).2 (by assumption)) | (exact absurd (hnl (by assumption) (by omega)).2 (by assumption)) | (exact absurd (hno (by assumption) (by omega)).2 (by assumption)) | (have := hft (by assumption) (by omega); simp_all; done) | (simp_all; done); done)
              refine ⟨fun h10 => ?_, fun h10 => ?_⟩
              · have g10 := h10
                refine ⟨?_, ?_⟩
                · first | (exact pcallv_img (i := 1) (x := newM l m s i) (x' := newM l m s i) rfl rfl rfl ((e20 _ _ _ _ ⟨⟨hw, by omega⟩, new_sm (by omega)⟩).trans (congrArg (fun b => some (PV.bool b, [mbx (newM l m s i)])) (by assumption))); done) | (first | omega | contradiction | (exact absurd (hnb (by assumption)).2 (by assumption)) | (exact absurd (hnl (by assumption) (by omega)).2 (by assumption)) | (exact absurd (hno (by assumption) (by omega)).2 (by assumption)) | (have := hft (by assumption) (by omega); simp_all; done) | (simp_all; done); done)
                first | (exact fin_b rfl; done) | (first | omega | contradiction | (exact absurd (hnb (by assumption)).2 (by assumption)) | (exact absurd (hnl (by assumption) (by omega)).2 (by assumption)) | (exact absurd (hno (by assumption) (by omega)).2 (by assumption)) | (have := hft (by assumption) (by omega); simp_all; done) | (simp_all; done); done)
              · have g10 := h10
                refine ⟨?_, ?_⟩
                · first | (exact pcallv_img (i := 1) (x := newM l m s i) (x' := newM l m s i) rfl rfl rfl ((e20 _ _ _ _ ⟨⟨hw, by omega⟩, new_sm (by omega)⟩).trans (congrArg (fun b => some (PV.bool b, [mbx (newM l m s i)])) (by assumption))); done) | (first | omega | contradiction | (exact absurd (hnb (by assumption)).2 (by assumption)) | (exact absurd (hnl (by assumption) (by omega)).2 (by assumption)) | (exact absurd (hno (by assumption) (by omega)).2 (by assumption)) | (have := hft (by assumption) (by omega); simp_all; done) | (simp_all; done); done)
                first | (exact fin_b rfl; done) | (first | omega | contradiction | (exact absurd (hnb (by assumption)).2 (by assumption)) | (exact absurd (hnl (by assumption) (by omega)).2 (by assumption)) | (exact absurd (hno (by assumption) (by omega)).2 (by assumption)) | (have := hft (by assumption) (by omega); simp_all; done) | (simp_all; done); done)
            · have g9 := beq_eq_false_iff_ne.1 h9
              try simp only [List.length_map] at g9
              first | (exact fin_b rfl; done) | (first | omega | contradiction | (exact absurd (hnb (by assumption)).2 (by assumption)) | (exact absurd (hnl (by assumption) (by omega)).2 (by assumption)) | (exact absurd (hno (by assumption) (by omega)).2 (by assumption)) | (have := hft (by assumption) (by omega); simp_all; done) | (simp_all; done); done)
end Go.Proofs.YtfhojpnofmlkdaaDoor
