/- Two states and their encodings. -/
import Derived.Test.YtmkpdbofhpffaaaRf
import Derived.Test.YtmkpdbofhpffaaaRc
namespace Go.Proofs.Ytmkpdbofhpffaaa
open Go.Proofs.Ytmkpdbofhpffaaa.Pv Go.RowKit
set_option maxRecDepth 100000
set_option maxHeartbeats 4000000
set_option linter.unusedSimpArgs false
set_option linter.unusedVariables false
set_option maxHeartbeats 2000000
def sB (l : List Int) : ByteArray := ⟨(l.map fun n => UInt8.ofNat n.toNat).toArray⟩
theorem t12 (iso : Nat → List PV → Option PV) (l : List VD) (a b : St) : wsh Try.prog X (Orc.mk iso no_shr (ownS X.sh) []) 12 40 Try.f12 [vars l, a.pv, b.pv] [] (.w (.bool (true)) [] (.n 1 (.s (.e) (.n 1 (.w (.int (IntKind.i64) (sml a)) [] (.s (.e) (.n 1 (.w (.int (IntKind.i64) (sml b)) [] (.s (.e) (.n 1 (.w (.tup [.lst (1) (List.map U8 (encR l a)), .int (IntKind.i64) (encE l a)]) [] (.n 3 (.w (.tup [.lst (1) (List.map U8 (encR l b)), .int (IntKind.i64) (encE l b)]) [] (.n 2 (.s (.e) (.s (.e) (.v (.str (sB (encR l a))) (.v (.str (sB (encR l b))) (.s (.n 2 (.c (decide (a = b)) (.v (.bool (true)) (.n 1 (.e))) (.v (.bool (false)) (.n 1 (.e))))) (.n 2 (.c (decide (a = b)) (.v (.bool (true)) (.n 1 (.e))) (.v (.bool (false)) (.n 1 (.e)))))))))))))))))))))))) = .eq (pcallv (Orc.mk iso no_shr (ownS X.sh) []) (.fn (13) []) [] []) (.bool (true)) [] (.ask (decide ((↑(List.length (List.map VD.pv l)) : Int) > 40)) (.done (.mk (.bool (true)) [])) (.eq (pcallv (Orc.mk iso no_shr (ownS X.sh) []) (.fn (20) []) [(.agg [.lst (1) (List.map ints (St.c a)), .lst (1) (List.map I (St.i a)), .lst (1) (List.map I (St.o a))])] []) (.int (IntKind.i64) (sml a)) [] (.ask (sml a == 0) (.done (.mk (.bool (true)) [])) (.eq (pcallv (Orc.mk iso no_shr (ownS X.sh) []) (.fn (20) []) [(.agg [.lst (1) (List.map ints (St.c b)), .lst (1) (List.map I (St.i b)), .lst (1) (List.map I (St.o b))])] []) (.int (IntKind.i64) (sml b)) [] (.ask (sml b == 0) (.done (.mk (.bool (true)) [])) (.eq (pcallv (Orc.mk iso no_shr (ownS X.sh) []) (.fn (30) []) [(.lst (3) (List.map VD.pv l)), (.agg [.lst (1) (List.map ints (St.c a)), .lst (1) (List.map I (St.i a)), .lst (1) (List.map I (St.o a))])] []) (.tup [.lst (1) (List.map U8 (encR l a)), .int (IntKind.i64) (encE l a)]) [] (.eq (pcallv (Orc.mk iso no_shr (ownS X.sh) []) (.fn (30) []) [(.lst (3) (List.map VD.pv l)), (.agg [.lst (1) (List.map ints (St.c b)), .lst (1) (List.map I (St.i b)), .lst (1) (List.map I (St.o b))])] []) (.tup [.lst (1) (List.map U8 (encR l b)), .int (IntKind.i64) (encE l b)]) [] (.ask (encE l a != 0) (.done (.mk (.bool (true)) [])) (.ask (encE l b != 0) (.done (.mk (.bool (true)) [])) (.eq ((pconvM Try.prog [] 55 9 (.lst (1) (List.map U8 (encR l a)))).map fun v => (v, [])) (.str (sB (encR l a))) [] (.eq ((pconvM Try.prog [] 55 9 (.lst (1) (List.map U8 (encR l b)))).map fun v => (v, [])) (.str (sB (encR l b))) [] (.ask (ByteArray.toList (sB (encR l a)) == ByteArray.toList (sB (encR l b))) (.ask (decide (a = b)) (.eq ((pcallD (Orc.mk iso no_shr (ownS X.sh) []) (.fn (21) []) [(.agg [.lst (1) (List.map ints (St.c a)), .lst (1) (List.map I (St.i a)), .lst (1) (List.map I (St.o a))]), (.agg [.lst (1) (List.map ints (St.c b)), .lst (1) (List.map I (St.i b)), .lst (1) (List.map I (St.o b))])] []).map fun (v, more) => (v, [] ++ more)) (.bool (true)) [] (.done (.mk (.bool (true)) []))) (.eq ((pcallD (Orc.mk iso no_shr (ownS X.sh) []) (.fn (21) []) [(.agg [.lst (1) (List.map ints (St.c a)), .lst (1) (List.map I (St.i a)), .lst (1) (List.map I (St.o a))]), (.agg [.lst (1) (List.map ints (St.c b)), .lst (1) (List.map I (St.i b)), .lst (1) (List.map I (St.o b))])] []).map fun (v, more) => (v, [] ++ more)) (.bool (false)) [] (.done (.mk (.bool (false)) [])))) (.ask (decide (a = b)) (.eq ((pcallD (Orc.mk iso no_shr (ownS X.sh) []) (.fn (21) []) [(.agg [.lst (1) (List.map ints (St.c a)), .lst (1) (List.map I (St.i a)), .lst (1) (List.map I (St.o a))]), (.agg [.lst (1) (List.map ints (St.c b)), .lst (1) (List.map I (St.i b)), .lst (1) (List.map I (St.o b))])] []).map fun (v, more) => (v, [] ++ more)) (.bool (true)) [] (.done (.mk (.bool (false)) []))) (.eq ((pcallD (Orc.mk iso no_shr (ownS X.sh) []) (.fn (21) []) [(.agg [.lst (1) (List.map ints (St.c a)), .lst (1) (List.map I (St.i a)), .lst (1) (List.map I (St.o a))]), (.agg [.lst (1) (List.map ints (St.c b)), .lst (1) (List.map I (St.i b)), .lst (1) (List.map I (St.o b))])] []).map fun (v, more) => (v, [] ++ more)) (.bool (false)) [] (.done (.mk (.bool (true)) [])))))))))))))))) := by kernel_rfl
theorem by_range (x s : Int) : 0 ≤ by8 x s ∧ by8 x s < 256 := by unfold by8; rw [IntKind.wrap_u8]; omega
def B8 (l : List Int) : Prop := ∀ n ∈ l, 0 ≤ n ∧ n < 256
theorem B8.app {a b : List Int} (h : B8 a) (h' : B8 b) : B8 (a ++ b) := fun n hn => (List.mem_append.1 hn).elim (h n) (h' n)
theorem B8.be (s x : Int) (i : Nat) : B8 (beA s x i) := fun n hn => by
  unfold beA at hn
  obtain ⟨j, _, rfl⟩ := List.mem_map.1 hn
  exact by_range _ _
theorem B8.bes (l : List Int) : B8 (bes l) := fun n hn => by
  unfold Ytmkpdbofhpffaaa.bes at hn
  obtain ⟨x, _, hx⟩ := List.mem_flatMap.1 hn
  exact B8.be 56 x 8 n hx
theorem B8.encN (l : List VD) (s : St) (i : Nat) : B8 (encN l s i) := fun n hn => by
  unfold Ytmkpdbofhpffaaa.encN at hn
  obtain ⟨j, _, hx⟩ := List.mem_flatMap.1 hn
  unfold encV at hx
  split at hx
  · exact B8.app (B8.be 8 _ 2) (B8.bes _) n hx
  · rw [List.nil_append] at hx; exact B8.bes _ n hx
theorem B8.enc (l : List VD) (s : St) : B8 (enc l s) := ((((B8.encN l s _).app (B8.be 8 _ 2)).app (B8.bes _)).app (B8.be 8 _ 2)).app (B8.bes _)
theorem u8_of {a b : Int} (ha : 0 ≤ a ∧ a < 256) (hb : 0 ≤ b ∧ b < 256) (h : UInt8.ofNat a.toNat = UInt8.ofNat b.toNat) : a = b := by
  have := congrArg UInt8.toNat h
  simp only [UInt8.toNat_ofNat'] at this
  omega
theorem sB_list : ∀ {a b : List Int}, B8 a → B8 b → (a.map fun n => UInt8.ofNat n.toNat) = (b.map fun n => UInt8.ofNat n.toNat) → a = b
  | [], [], _, _, _ => rfl
  | x :: a, y :: b, ha, hb, h => by
    simp only [List.map_cons, List.cons.injEq] at h
    rw [u8_of (ha x (List.mem_cons_self ..)) (hb y (List.mem_cons_self ..)) h.1, sB_list (fun n hn => ha n (List.mem_cons_of_mem _ hn)) (fun n hn => hb n (List.mem_cons_of_mem _ hn)) h.2]
  | [], _ :: _, _, _, h => by simp at h
  | _ :: _, [], _, _, h => by simp at h
theorem sB_inj {a b : List Int} (ha : B8 a) (hb : B8 b) (h : (sB a).toList = (sB b).toList) : a = b := by
  rw [ByteArray.toList_eq, ByteArray.toList_eq] at h
  exact sB_list ha hb (by simpa [sB] using h)
theorem pbytes_u8 : ∀ l : List Int, pbytes (List.map U8 l) = some (l.map fun n => UInt8.ofNat n.toNat)
  | [] => rfl
  | x :: l => by
    show (pbytes (List.map U8 l)).map (UInt8.ofNat x.toNat :: ·) = _
    rw [pbytes_u8 l]; rfl
theorem conv_eq (l : List Int) : (pconvM Try.prog [] 55 9 (.lst 1 (List.map U8 l))).map (fun v => (v, ([] : List Pv.Box))) = some (.str (sB l), []) := by
  unfold pconvM
  rw [Try.underlying55, Try.underlying9]
  simp only
  rw [Try.underlying5, telems_lst]
  simp only [pbytes_u8]
  rfl
def InR (s : St) : Prop := (∀ c ∈ s.c, ∀ x ∈ c, R64 x) ∧ (∀ x ∈ s.i, R64 x) ∧ ∀ x ∈ s.o, R64 x
theorem encE_fit {l : List VD} {s : St} (h : encE l s = 0) : fitV l s = true ∧ encR l s = enc l s := by
  unfold encE at h
  split at h
  · rename_i e; exact ⟨e, by unfold encR; rw [if_pos e]⟩
  · cases h
theorem same_of {l : List VD} {a b : St} (ra : InR a) (rb : InR b) (ha : encE l a = 0) (hb : encE l b = 0) (h : (sB (encR l a)).toList = (sB (encR l b)).toList) : a = b := by
  obtain ⟨fa, ea⟩ := encE_fit ha
  obtain ⟨fb, eb⟩ := encE_fit hb
  rw [ea, eb] at h
  exact enc_inj fa fb ra rb (sB_inj (B8.enc l a) (B8.enc l b) h)
theorem la6 : ∃ iso : Nat → List PV → Option PV, OrcOk Try.prog X.G ⟨iso, no_shr, ownS X.sh, []⟩ ∧ (iso 13 [] = some (.bool true)) ∧ (∀ (s : St), iso 20 [s.pv] = some (I (sml s))) ∧ (∀ (a : St) (b : St), Sm a → iso 21 [a.pv, b.pv] = some (.bool (decide (a = b)))) ∧ (∀ (l : List VD) (s : St), sml s ≠ 0 → iso 30 [vars l, s.pv] = some (.tup [.lst 1 (List.map U8 (encR l s)), .int .i64 (encE l s)])) := by
  obtain ⟨h13, e13, o13⟩ := ent_ex (fun q : Unit => True) (fun q => ([], .bool true)) (fun a b h => by simp only [List.cons.injEq, ints_inj, cells_inj, vars_inj, VD_inj, St_inj, PV.int.injEq, and_true, true_and] at h; rfl)
  obtain ⟨h20, e20, o20⟩ := ent_ex (fun q : St => True) (fun q => ([(q).pv], I (sml (q)))) (fun a b h => by simp only [List.cons.injEq, ints_inj, cells_inj, vars_inj, VD_inj, St_inj, PV.int.injEq, and_true, true_and] at h; simp only [h])
  obtain ⟨h21, e21, o21⟩ := ent_ex (fun q : (St) × (St) => Sm (q.1)) (fun q => ([(q.1).pv, (q.2).pv], .bool (decide ((q.1) = (q.2))))) (fun a b h => by simp only [List.cons.injEq, ints_inj, cells_inj, vars_inj, VD_inj, St_inj, PV.int.injEq, and_true, true_and] at h; simp only [h])
  obtain ⟨h30, e30, o30⟩ := ent_ex (fun q : (List VD) × (St) => sml (q.2) ≠ 0) (fun q => ([vars (q.1), (q.2).pv], .tup [.lst 1 (List.map U8 (encR (q.1) (q.2))), .int .i64 (encE (q.1) (q.2))])) (fun a b h => by simp only [List.cons.injEq, ints_inj, cells_inj, vars_inj, VD_inj, St_inj, PV.int.injEq, and_true, true_and] at h; simp only [h])
  have hT : TabOk Try.prog X.G [(13, h13), (20, h20), (21, h21), (30, h30)] := tk (fun l r e => by obtain ⟨a, ha, rfl, rfl⟩ := o13 l r e; exact ok13) (tk (fun l r e => by obtain ⟨a, ha, rfl, rfl⟩ := o20 l r e; exact ok20 (a)) (tk (fun l r e => by obtain ⟨a, ha, rfl, rfl⟩ := o21 l r e; exact ok21 (a.1) (a.2) ha) (tk (fun l r e => by obtain ⟨a, ha, rfl, rfl⟩ := o30 l r e; exact ok30 (a.1) (a.2) ha) tn)))
  refine ⟨(tab X.sh [(13, h13), (20, h20), (21, h21), (30, h30)] []).iso, orcK hT, e13 () trivial, fun s  => e20 s trivial, fun a b hp => e21 (a, b) hp, fun l s hp => e30 (l, s) hp⟩
theorem ok12 (l : List VD) (a b : St) (ra : InR a) (rb : InR b) : Ok Try.prog X.G 12 [vars l, a.pv, b.pv] (.bool true) := by
  obtain ⟨iso, hC, e13, e20, e21, e30⟩ := la6
  refine wok env hC fd12 (t12 iso l a b) ?_ hhC
  simp only [Holds]
  refine ⟨?_, ?_⟩
  · exact pcallv_iso rfl rfl (e13)
  refine ⟨fun h0 => ?_, fun h0 => ?_⟩
  · have g0 := of_decide_eq_true h0
    try simp only [List.length_map] at g0
    exact fin_b rfl
  · have g0 := of_decide_eq_false h0
    try simp only [List.length_map] at g0
    refine ⟨?_, ?_⟩
    · exact pcallv_iso rfl rfl (e20 _)
    refine ⟨fun h1 => ?_, fun h1 => ?_⟩
    · have g1 := beq_iff_eq.1 h1
      try simp only [List.length_map] at g1
      exact fin_b rfl
    · have g1 := beq_eq_false_iff_ne.1 h1
      try simp only [List.length_map] at g1
      refine ⟨?_, ?_⟩
      · exact pcallv_iso rfl rfl (e20 _)
      refine ⟨fun h2 => ?_, fun h2 => ?_⟩
      · have g2 := beq_iff_eq.1 h2
        try simp only [List.length_map] at g2
        exact fin_b rfl
      · have g2 := beq_eq_false_iff_ne.1 h2
        try simp only [List.length_map] at g2
        refine ⟨?_, ?_⟩
        · exact pcallv_iso rfl rfl (e30 _ _ (by assumption))
        refine ⟨?_, ?_⟩
        · exact pcallv_iso rfl rfl (e30 _ _ (by assumption))
        refine ⟨fun h3 => ?_, fun h3 => ?_⟩
        · have g3 := bne_iff_ne.1 h3
          try simp only [List.length_map] at g3
          exact fin_b rfl
        · have g3 := bne_eq_false_iff_eq.1 h3
          try simp only [List.length_map] at g3
          refine ⟨fun h4 => ?_, fun h4 => ?_⟩
          · have g4 := bne_iff_ne.1 h4
            try simp only [List.length_map] at g4
            exact fin_b rfl
          · have g4 := bne_eq_false_iff_eq.1 h4
            try simp only [List.length_map] at g4
            refine ⟨?_, ?_⟩
            · exact conv_eq _
            refine ⟨?_, ?_⟩
            · exact conv_eq _
            refine ⟨fun h5 => ?_, fun h5 => ?_⟩
            · have g5 := beq_iff_eq.1 h5
              try simp only [List.length_map] at g5
              refine ⟨fun h6 => ?_, fun h6 => ?_⟩
              · have g6 := of_decide_eq_true h6
                try simp only [List.length_map] at g6
                refine ⟨?_, ?_⟩
                · (exact pcallD_iso rfl rfl (by rw [← h6]; exact e21 _ _ (sm_of (by assumption))))
                exact fin_b rfl
              · have g6 := of_decide_eq_false h6
                try simp only [List.length_map] at g6
                refine ⟨?_, ?_⟩
                · (exact pcallD_iso rfl rfl (by rw [← h6]; exact e21 _ _ (sm_of (by assumption))))
                ((exact absurd (same_of ra rb (by assumption) (by assumption) (by assumption)) (by assumption)))
            · have g5 := beq_eq_false_iff_ne.1 h5
              try simp only [List.length_map] at g5
              refine ⟨fun h7 => ?_, fun h7 => ?_⟩
              · have g7 := of_decide_eq_true h7
                try simp only [List.length_map] at g7
                refine ⟨?_, ?_⟩
                · (exact pcallD_iso rfl rfl (by rw [← h7]; exact e21 _ _ (sm_of (by assumption))))
                ((subst_vars; contradiction))
              · have g7 := of_decide_eq_false h7
                try simp only [List.length_map] at g7
                refine ⟨?_, ?_⟩
                · (exact pcallD_iso rfl rfl (by rw [← h7]; exact e21 _ _ (sm_of (by assumption))))
                exact fin_b rfl
theorem intsR_list {m : Nat} : ∀ es : List PV, (∀ x ∈ es, ∃ xs, x = Pv.elemOf 1 xs ∧ Ty Try.prog m 3 xs) → ∃ l : List Int, es = l.map I ∧ ∀ x ∈ l, R64 x
  | [], _ => ⟨[], rfl, fun x h => by simp at h⟩
  | e :: es, h => by
    obtain ⟨xs, rfl, ht⟩ := h e (by simp)
    obtain ⟨x, rfl, h1, h2⟩ := ty_int Try.underlying3 ht
    obtain ⟨l, rfl, hl⟩ := intsR_list es (fun y hy => h y (by simp [hy]))
    refine ⟨x :: l, rfl, fun y hy => ?_⟩
    rcases List.mem_cons.1 hy with rfl | hy
    · exact ⟨h1, h2⟩
    · exact hl y hy
theorem intsR_ty {m : Nat} {p : List PV} (h : Ty Try.prog m 23 p) : ∃ l : List Int, p = [ints l] ∧ ∀ x ∈ l, R64 x := by
  obtain ⟨n, es, rfl, _, he⟩ := ty_slice Try.underlying23 (by rw [ce3]; decide) h
  rw [ce3] at he ⊢
  obtain ⟨l, rfl, hl⟩ := intsR_list es he
  exact ⟨l, rfl, hl⟩
theorem cellsR_list {m : Nat} : ∀ es : List PV, (∀ x ∈ es, ∃ xs, x = Pv.elemOf 1 xs ∧ Ty Try.prog m 23 xs) → ∃ l : List (List Int), es = l.map ints ∧ ∀ c ∈ l, ∀ x ∈ c, R64 x
  | [], _ => ⟨[], rfl, fun x h => by simp at h⟩
  | e :: es, h => by
    obtain ⟨xs, rfl, ht⟩ := h e (by simp)
    obtain ⟨x, rfl, hx⟩ := intsR_ty ht
    obtain ⟨l, rfl, hl⟩ := cellsR_list es (fun y hy => h y (by simp [hy]))
    refine ⟨x :: l, rfl, fun y hy => ?_⟩
    rcases List.mem_cons.1 hy with rfl | hy
    · exact hx
    · exact hl y hy
theorem cellsR_ty {m : Nat} {p : List PV} (h : Ty Try.prog m 25 p) : ∃ l : List (List Int), p = [cells l] ∧ ∀ c ∈ l, ∀ x ∈ c, R64 x := by
  obtain ⟨n, es, rfl, _, he⟩ := ty_slice Try.underlying25 (by rw [ce23]; decide) h
  rw [ce23] at he ⊢
  obtain ⟨l, rfl, hl⟩ := cellsR_list es he
  exact ⟨l, rfl, hl⟩
theorem stR_ty {m : Nat} {p : List PV} (h : Ty Try.prog m 27 p) : ∃ s : St, Pv.valOf Try.prog 27 p = s.pv ∧ InR s := by
  obtain ⟨m, parts, rfl, hl, hp⟩ := ty_struct Try.underlying27 h
  match parts, hl, hp with
  | [p0, p1, p2], _, hp =>
    obtain ⟨a, rfl, ha⟩ := cellsR_ty (hp 0 _ p0 rfl rfl)
    obtain ⟨b, rfl, hb⟩ := intsR_ty (hp 1 _ p1 rfl rfl)
    obtain ⟨c, rfl, hc⟩ := intsR_ty (hp 2 _ p2 rfl rfl)
    refine ⟨⟨a, b, c⟩, ?_, ha, hb, hc⟩
    unfold Pv.valOf
    rw [Try.underlying27]
    rfl
theorem sorts_law (al : List PV) (h : Tys Try.prog [22, 27, 27] al) : Ok Try.prog X.G 12 al (.bool true) := by
  cases h with
  | cons _ _ _ p _ h hs =>
    cases hs with
    | cons _ _ _ p' _ h' hs =>
      cases hs with
      | cons _ _ _ p'' _ h'' hs =>
        cases hs
        obtain ⟨l, e⟩ := vars_ty h
        obtain ⟨a, e', ra⟩ := stR_ty h'
        obtain ⟨b, e'', rb⟩ := stR_ty h''
        rw [e, e', e'']
        exact ok12 l a b ra rb
end Go.Proofs.Ytmkpdbofhpffaaa
