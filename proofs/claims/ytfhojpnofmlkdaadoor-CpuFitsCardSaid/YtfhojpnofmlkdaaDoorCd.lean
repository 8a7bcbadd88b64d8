/- A new machine. -/
import Derived.Test.YtfhojpnofmlkdaaDoorCc
namespace Go.Proofs.YtfhojpnofmlkdaaDoor
open Go.Proofs.YtfhojpnofmlkdaaDoor.Pv Go.RowKit
set_option maxRecDepth 100000
set_option maxHeartbeats 4000000
set_option linter.unusedSimpArgs false
set_option linter.unusedVariables false
set_option maxHeartbeats 2000000
theorem ck_rng {l : List Ins} {m s : Int} (h : ckE l m s = 0) : 0 ≤ m ∧ m ≤ 16384 ∧ 1 ≤ s ∧ s ≤ 16384 := by
  unfold ckE at h
  split at h
  · cases h
  · rename_i hr
    unfold rngB at hr
    simp only [Bool.or_eq_true, decide_eq_true_eq] at hr
    omega
theorem mkM {hp : List Pv.Box} {k : Nat} {m : Int} (hk : hp.length = k) (h0 : 0 ≤ m) (h1 : m ≤ 16384) : (pmakeS Tryd.prog hp.length 26 (.int .i64 m) (.int .i64 m)).map (fun (v, bx) => (v, hp ++ [bx])) = some (.sl k 1 0 m.toNat, hp ++ [⟨1, rep m.toNat [J 0], 0⟩]) := by
  obtain ⟨n, rfl⟩ := Int.eq_ofNat_of_zero_le h0
  rw [pmakeS_eq Tryd.underlying26 sz3 z3 rfl (by decide) (bytes3 (by omega)) (by omega), hk, Int.toNat_natCast]; rfl
theorem mkS {hp : List Pv.Box} {k : Nat} {m : Int} (hk : hp.length = k) (h0 : 1 ≤ m) (h1 : m ≤ 16384) : (pmakeS Tryd.prog hp.length 27 (.int .i64 m) (.int .i64 m)).map (fun (v, bx) => (v, hp ++ [bx])) = some (.sl k 1 0 m.toNat, hp ++ [⟨1, rep m.toNat [.nils], 0⟩]) := by
  obtain ⟨n, rfl⟩ := Int.eq_ofNat_of_zero_le (show 0 ≤ m by omega)
  rw [pmakeS_eq Tryd.underlying27 sz26 z26 rfl (by decide) (bytes26 (by omega)) (by omega), hk, Int.toNat_natCast]; rfl
theorem fzW {hp : List Pv.Box} {d a b m s : Nat} {i : List Int} (hab : a ≠ b) (ha : hp[a]? = some ⟨1, rep m [J 0], 0⟩) (hb : hp[b]? = some ⟨1, rep s [.nils], 0⟩) :
    fz (d + 3) hp (.agg ([J 0, J 1, J 0, J 0, J 0, J 0, J 0, J 0, J 0, J 0, J 0, J 0, J 0, J 0, J 0, J 0, J 0, J 0] ++ [.sl a 1 0 m, .sl b 1 0 s, .nils, J 0, J 0, nums i, .nils])) = some (wN m s i, (hp.set a ⟨1, rep m [J 0], 1⟩).set b ⟨1, rep s [.nils], 1⟩) := by
  have h1 : fz (d + 2) hp (.sl a 1 0 m) = some (nums (List.replicate m 0), hp.set a ⟨1, rep m [J 0], 1⟩) := by
    rw [fz_rep (d := d + 1) rfl rfl ha]; unfold nums; rw [List.map_replicate]
  have hb' : (hp.set a ⟨1, rep m [J 0], 1⟩)[b]? = some ⟨1, rep s [.nils], 0⟩ := by rw [List.getElem?_set_ne hab]; exact hb
  have h2 : fz (d + 2) (hp.set a ⟨1, rep m [J 0], 1⟩) (.sl b 1 0 s) = some (.lst 1 (List.replicate s .nils), (hp.set a ⟨1, rep m [J 0], 1⟩).set b ⟨1, rep s [.nils], 1⟩) := fz_rep (d := d + 1) rfl rfl hb'
  refine fz_agg1 (d := d + 2) (fzL_pre [J 0, J 1, J 0, J 0, J 0, J 0, J 0, J 0, J 0, J 0, J 0, J 0, J 0, J 0, J 0, J 0, J 0, J 0] (fun c hc => ?_) (fzL_one h1 (fzL_one h2 rfl)))
  simp only [List.mem_cons, List.not_mem_nil, or_false] at hc
  rcases hc with rfl | rfl | rfl | rfl | rfl | rfl | rfl | rfl | rfl | rfl | rfl | rfl | rfl | rfl | rfl | rfl | rfl | rfl <;> rfl
theorem sub_w (m s : Nat) (i : List Int) : Sub (wN m s i) (wantM m s i).pv := Sub.agg ((.cons (Sub.refl _) (.cons (Sub.refl _) (.cons (Sub.refl _) (.cons (Sub.refl _) (.cons (Sub.refl _) (.cons (Sub.refl _) (.cons (Sub.refl _) (.cons (Sub.refl _) (.cons (Sub.refl _) (.cons (Sub.refl _) (.cons (Sub.refl _) (.cons (Sub.refl _) (.cons (Sub.refl _) (.cons (Sub.refl _) (.cons (Sub.refl _) (.cons (Sub.refl _) (.cons (Sub.refl _) (.cons (Sub.refl _) (.cons (Sub.refl _) (.cons (sub_reps rfl rfl (Sub.nils 1) |>.trans (by unfold stks; rw [show (wantM m s i).s = List.replicate s [] from rfl, List.map_replicate]; exact Sub.refl _)) (.cons (Sub.nils 2) (.cons (Sub.refl _) (.cons (Sub.refl _) (.cons (Sub.refl _) (.cons (Sub.nils 1) .nil))))))))))))))))))))))))))
theorem sub_z : Sub zN Mc0.pv := Sub.agg ((.cons (Sub.refl _) (.cons (Sub.refl _) (.cons (Sub.refl _) (.cons (Sub.refl _) (.cons (Sub.refl _) (.cons (Sub.refl _) (.cons (Sub.refl _) (.cons (Sub.refl _) (.cons (Sub.refl _) (.cons (Sub.refl _) (.cons (Sub.refl _) (.cons (Sub.refl _) (.cons (Sub.refl _) (.cons (Sub.refl _) (.cons (Sub.refl _) (.cons (Sub.refl _) (.cons (Sub.refl _) (.cons (Sub.refl _) (.cons (Sub.nils 1) (.cons (Sub.nils 1) (.cons (Sub.nils 2) (.cons (Sub.refl _) (.cons (Sub.refl _) (.cons (Sub.nils 1) (.cons (Sub.nils 1) .nil))))))))))))))))))))))))))
theorem sub_arg (b : Arg) : Sub b.pv b.mc.pv := by
  cases b
  · exact Sub.refl _
  · exact sub_z
  · exact sub_w _ _ _
theorem ok17A (a : Mc) (b : Arg) (hs : Sm a) : Ok Tryd.prog X.G 17 [a.pv, b.pv] (.bool (decide (a = b.mc))) := (ok17 a b.mc hs).args (.cons (Sub.refl _) (.cons (sub_arg b) .nil))
theorem new_ok {l : List Ins} {m s : Int} {i : List Int} (h : ckE l m s = 0) (hi : i.length ≤ 4096) : newM l m s i = wantM m.toNat s.toNat i ∧ newE l m s i = 0 := by unfold newM newE; rw [h]; simp [hi]
theorem new_long {l : List Ins} {m s : Int} {i : List Int} (h : ckE l m s = 0) (hi : ¬ i.length ≤ 4096) : newM l m s i = Mc0 ∧ newE l m s i = 5 := by unfold newM newE; rw [h]; simp [hi]
theorem new_bad {l : List Ins} {m s : Int} {i : List Int} (h : ckE l m s ≠ 0) : newM l m s i = Mc0 ∧ newE l m s i = 3 := by unfold newM newE; rw [if_neg (by simpa using h), if_neg (by simpa using h)]; exact ⟨rfl, rfl⟩
theorem fin_z {bs : List Pv.Box} {x : Mc} {e e' : Int} (h : x = Mc0 ∧ e' = e) : Fz bs (.tup [zN, .int .i64 e]) (.tup [x.pv, J e']) := by
  rw [h.1, h.2]; exact ⟨_, _, rfl, Sub.tup (.cons sub_z (.cons (Sub.refl _) .nil))⟩
theorem fin_w {hp : List Pv.Box} {x : Mc} {e' : Int} {m s : Nat} {i : List Int} (h : x = wantM m s i ∧ e' = 0) (ha : hp[2]? = some ⟨1, rep m [J 0], 0⟩) (hb : hp[3]? = some ⟨1, rep s [.nils], 0⟩) :
    Fz hp (.tup [.agg ([J 0, J 1, J 0, J 0, J 0, J 0, J 0, J 0, J 0, J 0, J 0, J 0, J 0, J 0, J 0, J 0, J 0, J 0] ++ [.sl 2 1 0 m, .sl 3 1 0 s, .nils, J 0, J 0, nums i, .nils]), .int .i64 0]) (.tup [x.pv, J e']) := by
  rw [h.1, h.2]
  refine ⟨_, _, fz_tup1 (d := 5) (fzL_one (fzW (d := 2) (by decide) ha hb) (fzL_one rfl rfl)), Sub.tup (.cons (sub_w m s i) (.cons (Sub.refl _) .nil))⟩
theorem new_sm {l : List Ins} {m s : Int} {i : List Int} (hi : i.length ≤ 5000) : Sm (newM l m s i) := by
  have h0 : Sm Mc0 := ⟨Nat.zero_le _, Nat.zero_le _, fun c hc => by simp [Mc0] at hc, Nat.zero_le _, Nat.zero_le _, Nat.zero_le _⟩
  by_cases h : ckE l m s = 0
  · by_cases h' : i.length ≤ 4096
    · rw [(new_ok h h').1]
      have := ck_rng h
      refine ⟨?_, ?_, fun c hc => ?_, Nat.zero_le _, ?_, Nat.zero_le _⟩
      · show (List.replicate _ _).length ≤ _; rw [List.length_replicate, BB_eq]; omega
      · show (List.replicate _ _).length ≤ _; rw [List.length_replicate, BB_eq]; omega
      · have := List.eq_of_mem_replicate (show c ∈ List.replicate s.toNat [] from hc); rw [this]; exact Nat.zero_le _
      · show i.length ≤ _; rw [BB_eq]; omega
    · rw [(new_long h h').1]; exact h0
  · rw [(new_bad h).1]; exact h0
theorem lf3 : ∃ (iso : Nat → List PV → Option PV) (shr : Nat → List PV → List Pv.Box → Option (PV × List Pv.Box)), OrcOk Tryd.prog X.G ⟨iso, shr, ownS X.sh, []⟩ ∧ (∀ (l : List Ins) (m : Int) (s : Int), (WF l ∧ l.length ≤ 300) → iso 25 [imgP l m s] = some (.bool (ckE l m s == 0))) ∧ (∀ (a : List Int), (a.length ≤ BB) → iso 35 [nums a] = some (nums a)) := by
  obtain ⟨h25, e25, o25⟩ := ent_ex (fun q : (List Ins) × (Int) × (Int) => WF (q.1) ∧ (q.1).length ≤ 300) (fun q => ([imgP (q.1) (q.2.1) (q.2.2)], .bool (ckE (q.1) (q.2.1) (q.2.2) == 0))) (fun a b h => by simp only [List.cons.injEq, nums_inj, stks_inj, acts_inj, Mc_inj, imgP_inj, mbx_inj, PV.int.injEq, ArgPv_inj, and_true, true_and] at h; first | rfl | (simp only [h]; done) | (simp [h]; done))
  obtain ⟨h35, e35, o35⟩ := ent_ex (fun q : List Int => (q).length ≤ BB) (fun q => ([nums (q)], nums (q))) (fun a b h => by simp only [List.cons.injEq, nums_inj, stks_inj, acts_inj, Mc_inj, imgP_inj, mbx_inj, PV.int.injEq, ArgPv_inj, and_true, true_and] at h; first | rfl | (simp only [h]; done) | (simp [h]; done))
  have hT : TabOk Tryd.prog X.G [(25, h25), (35, h35)] := tk (fun l r e => by obtain ⟨a, ha, rfl, rfl⟩ := o25 l r e; exact okw25 (a.1) (a.2.1) (a.2.2) ha.1 ha.2) (tk (fun l r e => by obtain ⟨a, ha, rfl, rfl⟩ := o35 l r e; exact ok35 (a) ha) tn)
  have hS : TabSOk Tryd.prog X.G [] := tn'
  exact ⟨_, _, orcS hT hS, fun l m s hp => e25 (l, m, s) hp, fun a hp => e35 a hp⟩
theorem ok26  (l : List Ins) (m : Int) (s : Int) (i : List Int) (hw : WF l ∧ l.length ≤ 300) (hi : i.length ≤ 5000) : Ok Tryd.prog X.G 26 [imgP l m s, nums i] (.tup [(newM l m s i).pv, J (newE l m s i)]) := by
  obtain ⟨iso, shr, hC, e25, e35⟩ := lf3
  have hr := @ck_rng l m s
  refine wok env hC fd26 (t26 iso shr l m s i) ?_ hhS
  simp only [Holds]
  refine ⟨fun h0 => ?_, fun h0 => ?_⟩
  · have g0 := beq_iff_eq.1 h0
    try simp only [List.length_map] at g0
    refine ⟨?_, ?_⟩
    · first | (exact pcallv_iso rfl rfl (by rw [← h0]; exact e25 _ _ _ hw); done) | (exact pcallv_iso rfl rfl (e25 _ _ _ hw); done) | (first | omega | contradiction | (simp_all; done); done)
    refine ⟨fun h1 => ?_, fun h1 => ?_⟩
    · have g1 := of_decide_eq_true h1
      try simp only [List.length_map] at g1
      first | (exact fin_z (new_bad (by assumption)); done) | (exact fin_z (new_long (by assumption) (by omega)); done) | (exact fin_w (new_ok (by assumption) (by omega)) rfl rfl; done) | (first | omega | contradiction | (simp_all; done); done)
    · have g1 := of_decide_eq_false h1
      try simp only [List.length_map] at g1
      refine ⟨?_, ?_⟩
      · first | (exact mkM rfl (hr (by assumption)).1 (hr (by assumption)).2.1; done) | (exact mkS rfl (hr (by assumption)).2.2.1 (hr (by assumption)).2.2.2; done) | (exact px26 (by omega); done) | (exact px27 (by omega); done) | (exact px28 (by omega); done) | (first | omega | contradiction | (simp_all; done); done)
      refine ⟨?_, ?_⟩
      · first | (exact mkM rfl (hr (by assumption)).1 (hr (by assumption)).2.1; done) | (exact mkS rfl (hr (by assumption)).2.2.1 (hr (by assumption)).2.2.2; done) | (exact px26 (by omega); done) | (exact px27 (by omega); done) | (exact px28 (by omega); done) | (first | omega | contradiction | (simp_all; done); done)
      refine ⟨?_, ?_⟩
      · first | (exact pcallD_iso rfl rfl (e35 _ (by rw [BB_eq]; omega)); done) | (first | omega | contradiction | (simp_all; done); done)
      first | (exact fin_z (new_bad (by assumption)); done) | (exact fin_z (new_long (by assumption) (by omega)); done) | (exact fin_w (new_ok (by assumption) (by omega)) rfl rfl; done) | (first | omega | contradiction | (simp_all; done); done)
  · have g0 := beq_eq_false_iff_ne.1 h0
    try simp only [List.length_map] at g0
    refine ⟨?_, ?_⟩
    · first | (exact pcallv_iso rfl rfl (by rw [← h0]; exact e25 _ _ _ hw); done) | (exact pcallv_iso rfl rfl (e25 _ _ _ hw); done) | (first | omega | contradiction | (simp_all; done); done)
    first | (exact fin_z (new_bad (by assumption)); done) | (exact fin_z (new_long (by assumption) (by omega)); done) | (exact fin_w (new_ok (by assumption) (by omega)) rfl rfl; done) | (first | omega | contradiction | (simp_all; done); done)
theorem ok12 : Ok Tryd.prog X.G 12 [] (.bool true) := ok_of_iso (n := 60) env (by kernel_rfl)
end Go.Proofs.YtfhojpnofmlkdaaDoor
