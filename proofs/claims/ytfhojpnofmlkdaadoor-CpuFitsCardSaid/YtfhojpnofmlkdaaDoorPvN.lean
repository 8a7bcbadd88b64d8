/- Regions whose order is drawn: **whatever the order, what the text's order says**. -/
import Derived.Test.YtfhojpnofmlkdaaDoorPvM
namespace Go.Proofs.YtfhojpnofmlkdaaDoor.Pv
open Go.RowKit
set_option linter.unusedSimpArgs false
set_option linter.unusedVariables false
set_option maxHeartbeats 1000000

theorem pwant_sound2 {ops : Array Oper} {a : Act} {ts : TS} {o : Oper} {b : Bool} {H : GH} {ρ : RM} (h : pwant ops ts o = some b) (ht : ∀ t ∈ rd ops o, Rel H ρ (a.tmps.getD t undef) (getT ts t)) : Region.wanted o (yielded ops a.tmps) = b :=
  pwant_sound1 h fun j b' d h1 h2 => ht d (by unfold rd; rw [h1]; simp [h2])
/-- an operation that writes no box, wherever it comes up: perhaps it makes some -/
theorem soft_sound {P : Program} {G : Nat → List PV} {C : Orc} {B : Nat → Prop} {H : GH} {ρ : RM} {w : World} {a : Act} {pv : Operand → PV} {ops : Array Oper} {hp hp' hpn : List Box} {o : Oper} {v : PV} {next : Act → World → Prop} {Q : Exit → Act → World → Prop} (hC : OrcOk P G C) (hr : WR B H ρ w hp) (hw : WR B H ρ w hpn) (hgr : GRel H G) (hev : ∀ x ∈ o.op.operands, Rel H ρ (a.eval x) (pv x)) (h : popD P C (isF ops o) pv hp o.op = some (v, hp')) (hk : kindO C.hs ops o ≠ 3)
    (hid : ∀ id, hp.length ≤ id → id < hp'.length → hpn[id]? = hp'[id]? ∧ ρ id = none)
    (hK : ∀ z w' H' ρ', Step B H ρ w H' ρ' w' → WR B H' ρ' w' hpn → (∀ i, ¬ (hp.length ≤ i ∧ i < hp'.length) → ρ' i = ρ i) → (∀ id bx, hp.length ≤ id → id < hp'.length → hp'[id]? = some bx → bx.st ≤ 1 → ∃ x, ρ' id = some x) → Rel H' ρ' z v → next (a.put o.dst z) w') : o.wp P a w next Q := by
  -- where nothing is made
  have hK0 : hp' = hp → ∀ z w' H', Step B H ρ w H' ρ w' → WR B H' ρ w' hpn → Rel H' ρ z v → next (a.put o.dst z) w' := fun e z w' H' k1 k2 k3 => hK z w' H' ρ k1 k2 (fun _ _ => rfl) (fun id bx h1 h2 => by subst e; omega) k3
  have hK1 : ∀ bx, hp' = hp ++ [bx] → ∀ z w' x, Step B H ρ w H (ρ.put hp.length x) w' → WR B H (ρ.put hp.length x) w' hpn → Rel H (ρ.put hp.length x) z v → next (a.put o.dst z) w' := fun bx e z w' x k1 k2 k3 => by
    subst e
    refine hK z w' H _ k1 k2 (fun i hi => ?_) (fun id b h1 h2 _ _ => ?_) k3
    · unfold RM.put; rw [if_neg (by simp at hi; omega)]
    · simp at h2
      obtain rfl : id = hp.length := by omega
      exact ⟨x, RM.put_same⟩
  obtain ⟨dst, op, ty, pos, aft, gd⟩ := o
  simp only at h hk hev
  unfold popD at h
  split at h
  · split at h
    · unfold pmkO at h
      split at h
      · rename_i args0 ats0 _
        split at h
        · rename_i T X s' t' hT hX hargs
          have e0 : args0 = #[s', t'] := by rw [← Array.toArray_toList (xs := args0), hargs]
          subst e0
          have go : ∀ (a0 : Option Addr) (s0 : PV), (s0 = .nils ∨ s0 = .emp) → pappO P hp hp.length T X s0 (pv t') = some (v, hp') → a.eval s' = .slice a0 0 0 → (⟨dst, .call { callee := .builtin .append, args := #[s', t'], argTypes := ats0 }, ty, pos, aft, gd⟩ : Oper).wp P a w next Q := fun a0 s0 hs0 h hea => by
            obtain ⟨E, F, sz, z0, es', g1, g2, g3, g4, g5, g6, g7, g8, rfl, rfl⟩ := pappO_inv h hs0
            obtain ⟨at', capt, vs, e1, hel, hcl⟩ := telems_sound hr g7 (hev t' (by simp [Op.operands, Call.operands]))
            obtain ⟨q1, q2⟩ := hid hp.length (Nat.le_refl _) (by simp)
            obtain ⟨z, w', H', ρ', k1, k2, k3, k4, k5⟩ := pappO_fresh (ty := ty) (a := a0) (capt := capt) hw hT hX g1 g2 g3 g4 g5 g6 hel hcl g8 q2 (by rw [q1]; simp)
            rw [← hea, ← e1] at k1
            refine upon_ok (by simp [execOp, resolve, invoke, builtin, Sem.run_bind, k1]) (hK z w' H' ρ' k3 k2 (fun i hi => k5 i (by rintro rfl; simp at hi)) (fun id bx h1 h2 h3 h4 => ?_) k4)
            simp at h2
            obtain rfl : id = hp.length := by omega
            simp at h3
            subst h3
            simp [tik] at h4
          split at h
          · rename_i e1
            have hx := hev s' (by simp [Op.operands, Call.operands])
            rw [e1] at hx
            generalize hu : a.eval s' = u at hx
            cases hx
            exact go none .nils (.inl rfl) h hu
          · rename_i e1
            have hx := hev s' (by simp [Op.operands, Call.operands])
            rw [e1] at hx
            generalize hu : a.eval s' = u at hx
            cases hx with | emp a0 => exact go a0 .emp (.inr rfl) h hu
          · cases h
        · cases h
      · cases h
    obtain ⟨⟨r, b⟩, h1, e⟩ := Option.map_eq_some_iff.1 h
    unfold pmk at h1
    split at h1
    · rename_i args0 ats0 _
      split at h1
      · rename_i T X s' t' hT hX hargs
        have e0 : args0 = #[s', t'] := by rw [← Array.toArray_toList (xs := args0), hargs]
        subst e0
        cases b with
        | none =>
          simp at e
          obtain ⟨rfl, e⟩ := e
          obtain ⟨z, w', k1, k2⟩ := pappF_sound (ty := ty) (hpn := hp) hr hr hT hX (hev s' (by simp [Op.operands, Call.operands])) (hev t' (by simp [Op.operands, Call.operands])) h1 (fun bx e => by cases e)
          rcases k2 with ⟨_, rfl, k3⟩ | ⟨bx, x, e, _⟩
          · exact upon_ok (by simp [execOp, resolve, invoke, builtin, Sem.run_bind, k1]) (hK0 e.symm z w' H (.refl _ _ _ _) hw k3)
          · cases e
        | some bx =>
          simp at e
          obtain ⟨rfl, e⟩ := e
          obtain ⟨q1, q2⟩ := hid hp.length (Nat.le_refl _) (by rw [← e]; simp)
          obtain ⟨z, w', k1, k2⟩ := pappF_sound (ty := ty) (hpn := hpn) hr hw hT hX (hev s' (by simp [Op.operands, Call.operands])) (hev t' (by simp [Op.operands, Call.operands])) h1 (fun b e1 => by cases e1; exact ⟨q2, by rw [q1, ← e]; simp⟩)
          rcases k2 with ⟨e, _⟩ | ⟨b, x, e1, k3, k4, k5⟩
          · cases e
          · cases e1
            exact upon_ok (by simp [execOp, resolve, invoke, builtin, Sem.run_bind, k1]) (hK1 bx e.symm z w' x k4 k3 k5)
      · cases h1
    · cases h1
  rename_i hfr
  split at h
  · rename_i T x
    have mp : ∀ {y : Option PV}, (y.map fun v => (v, hp)) = some (v, hp') → y = some v ∧ hp' = hp := fun hx => by
      obtain ⟨r, h1, e⟩ := Option.map_eq_some_iff.1 hx; cases e; exact ⟨h1, rfl⟩
    have fin : pload P hp T (pv x) = some v → hp' = hp → (⟨dst, .load T x, ty, pos, aft, gd⟩ : Oper).wp P a w next Q := fun h1 e => by
      obtain ⟨z, h2, h3⟩ := pload_sound hr h1 (hev x (by simp [Op.operands]))
      exact upon_ok (by simp [execOp, Sem.run_bind, h2]) (hK0 e z w H (.refl _ _ _ _) hw h3)
    split at h
    · split at h
      · rename_i cs e1
        obtain ⟨h1, e⟩ := mp h; exact fin (by rw [e1]; exact h1) e
      · rename_i id off e1
        split at h
        · split at h
          · obtain ⟨h1, e⟩ := mp h; exact fin (by rw [e1]; exact h1) e
          · cases h
        · cases h
      · cases h
    · obtain ⟨h1, e⟩ := mp h; exact fin h1 e
  · rename_i f args ats
    split at h
    · rename_i hh
      exact absurd (show kindO C.hs ops ⟨dst, .call { callee := .value f, args := args, argTypes := ats }, ty, pos, aft, gd⟩ = 3 by simp [kindO, hh]) hk
    obtain ⟨⟨r, more⟩, h1, e⟩ := Option.map_eq_some_iff.1 h
    simp only [Prod.mk.injEq] at e
    obtain ⟨rfl, e⟩ := e
    unfold pcallD at h1
    split at h1
    · rename_i g caps hf
      have hx := hev f (by simp [Op.operands, Call.operands])
      rw [hf] at hx
      generalize hu : a.eval f = u at hx
      cases hx with | fn _ vs _ hl hr' =>
      have ha := args_rel (xs := args) (fun x hx => hev x (by simp only [Op.operands, Call.operands]; exact Array.mem_append.2 (.inr hx))) hl hr'
      split at h1
      · split at h1
        · rename_i hnb
          obtain ⟨r0, bxs, h0, rfl, rfl⟩ := pfresh_some h1
          obtain ⟨⟨fn, k1, k2, k3⟩, k4⟩ := hC.shr _ _ _ _ _ h0
          have hlen : hp'.length = hp.length + bxs.length := by rw [← e]; simp
          refine upon_enter (call_run hu k1 k2 k3) (fresh_sound (n := hp.length) (hpn := hpn) k4 hw hgr ⟨ha.len, fun i v c hv hc => noBox_nil deep v c (List.all_eq_true.1 hnb c (List.mem_of_getElem? hc)) (ha.rel i v c hv hc)⟩ (fun j bx hj => ?_) (fun j hj => (hid _ (by omega) (by omega)).2)) fun e2 w' he => ?_
          · have hjl := (List.getElem?_eq_some_iff.1 hj).1
            rw [(hid _ (by omega) (by omega)).1, ← e, List.getElem?_append_right (by omega), Nat.add_sub_cancel_left, List.getElem?_map, hj]; rfl
          · obtain ⟨z, H', ρ', rfl, m1, m2, m3, m4, m5⟩ := he
            refine ⟨z, rfl, hK z w' H' ρ' m1 m2 (fun i hi => m3 i (by rw [hlen] at hi; exact hi)) (fun id bx q1 q2 q3 q4 => ?_) m5⟩
            rw [← e, List.getElem?_append_right (by omega), List.getElem?_map] at q3
            obtain ⟨b0, hb0, rfl⟩ := Option.map_eq_some_iff.1 q3
            have := m4 _ _ hb0 q4
            rwa [show hp.length + (id - hp.length) = id by omega] at this
        · cases h1
      · split at h1
        · rename_i hnb
          obtain ⟨r', hiso, e2⟩ := Option.map_eq_some_iff.1 h1
          simp only [Prod.mk.injEq] at e2
          obtain ⟨rfl, rfl⟩ := e2
          obtain ⟨⟨fn, k1, k2, k3⟩, k4⟩ := hC.iso _ _ _ hiso
          refine upon_enter (call_run hu k1 k2 k3) (k4 w H _ hw.sub hgr ⟨ha.len, fun i v c hv hc => noBox_nil deep v c (List.all_eq_true.1 hnb c (List.mem_of_getElem? hc)) (ha.rel i v c hv hc)⟩) fun e3 w' he => ?_
          obtain ⟨z, H', rfl, m1, m2, m3, m4, m5⟩ := he
          exact ⟨z, rfl, hK0 (by rw [← e]; simp) z w' H' ⟨m2, .refl _, fun b o v hb hv => m3 b o v (hw.base _ hb) hv, Below_bel m1 hw.base⟩ (hw.keep m1 m2 m3 m4) m5.up⟩
        · split at h1
          · rename_i as' hp1 hfz
            obtain ⟨H1, kn, l1, r1⟩ := fzL_sound (fun H hp v p p' hp' => fz_sound deep H hp v p p' hp') _ (args.map a.eval ++ vs).toList H hp as' hp1 hr (by have := ha.len; simpa using this) (fun i v c hv hc => ha.rel i v c (by rw [← Array.getElem?_toList]; exact hv) hc) hfz
            have ha' : Args H1 RM.nil (args.map a.eval ++ vs) as' := ⟨by rw [l1]; exact ha.len, fun i v c hv hc => r1 i v c (by rw [Array.getElem?_toList]; exact hv) hc⟩
            split at h1
            · rename_i r0 hiso
              obtain ⟨⟨fn, k1, k2, k3⟩, k4⟩ := hC.iso _ _ _ hiso
              refine upon_enter (call_run hu k1 k2 k3) (k4 w H1 _ kn.wr.sub (hgr.mono kn.hH) ha') fun e3 w' he => ?_
              obtain ⟨z, H', rfl, m1, m2, m3, m4, m5⟩ := he
              refine ⟨z, rfl, ?_⟩
              split at h1
              · rename_i hfl
                cases h1
                exact hK0 (by rw [← e]; simp) z w' H ⟨.refl _, .refl _, fun _ _ _ _ h => h, Below_bel m1 hw.base⟩ (hw.keep m1 (.refl _) (fun _ _ _ _ h => h) (sub_below hw.sub m1)) (m5.flat (flatB_flat _ _ hfl))
              · cases h1
            · cases h1
          · cases h1
    · cases h1
  · rename_i nl nc
    have mp : ∀ {x : Option PV}, (x.map fun v => (v, hp)) = some (v, hp') → x = some v ∧ hp' = hp := fun hx => by
      obtain ⟨r, h1, e⟩ := Option.map_eq_some_iff.1 hx; cases e; exact ⟨h1, rfl⟩
    have nw : ∀ (q : Op), ((pnew P pv hp.length q).map fun (v, bx) => (v, hp ++ [bx])) = some (v, hp') → q = op → (⟨dst, op, ty, pos, aft, gd⟩ : Oper).wp P a w next Q := fun q hx hq => by
      obtain ⟨⟨r, bx⟩, h1, e⟩ := Option.map_eq_some_iff.1 hx
      simp only [Prod.mk.injEq] at e
      obtain ⟨rfl, e⟩ := e
      subst hq
      obtain ⟨q1, q2⟩ := hid hp.length (Nat.le_refl _) (by rw [← e]; simp)
      obtain ⟨z, w', x, k1, k2, k3, k4⟩ := pnew_sound (o := ⟨dst, q, ty, pos, aft, gd⟩) (ev := a.eval) hw h1 (by rw [q1, ← e]; simp) q2 hev
      exact upon_ok k1 (hK1 bx e.symm z w' x k3 k2 k4)
    unfold pop at h
    split at h
    · exact (nl _ _ rfl).elim
    all_goals first
      | (exact absurd rfl hk; done)
      | (exact nw _ h rfl; done)
      | skip
    · rename_i T parts
      obtain ⟨h1, e⟩ := mp h
      obtain ⟨z, w', k1, k2, k3, k4⟩ := pemp_sound (o := ⟨dst, _, ty, pos, aft, gd⟩) (ev := a.eval) hw rfl h1
      exact upon_ok k1 (hK0 e z w' H k2 k3 k4)
    · rename_i T x
      split at h
      · obtain ⟨h1, e⟩ := mp h
        obtain ⟨z, w', H', k1, k2, k3, k4⟩ := pfrzB_sound (o := ⟨dst, _, ty, pos, aft, gd⟩) (ev := a.eval) hw rfl h1 (hev x (by simp [Op.operands]))
        exact upon_ok k1 (hK0 e z w' H' k2 k3 k4)
      · exact nw _ h rfl
    · rename_i args ats
      exfalso
      have : kindO C.hs ops ⟨dst, .call { callee := .builtin .append, args := args, argTypes := ats }, ty, pos, aft, gd⟩ = 3 ∨ kindO C.hs ops ⟨dst, .call { callee := .builtin .append, args := args, argTypes := ats }, ty, pos, aft, gd⟩ = 4 := by
        unfold kindO
        simp only
        split
        · split
          · exact .inr rfl
          · exact .inl rfl
        · exact .inl rfl
      rcases this with e | e
      · exact hk e
      · rw [isF_iff (hs := C.hs), e] at hfr; simp at hfr
    all_goals first | (exact (nc _ _ _ rfl).elim; done) | skip
    · rename_i s t x
      split at h
      · obtain ⟨h1, e⟩ := mp h
        obtain ⟨z, w', H', k1, k2, k3, k4⟩ := pconvM_sound hr hw h1 (hev x (by simp [Op.operands]))
        exact upon_ok (by simp [execOp, Sem.run_bind, k1]) (hK0 e z w' H' k2 k3 k4)
      · obtain ⟨h1, e⟩ := mp h
        obtain ⟨z, h2, h3⟩ := popA_sound (o := ⟨dst, _, ty, pos, aft, gd⟩) (w := w) h1 hev
        exact upon_ok h2 (hK0 e z w H (.refl _ _ _ _) hw h3)
    · obtain ⟨h1, e⟩ := mp h
      obtain ⟨z, h2, h3⟩ := popA_sound (o := ⟨dst, _, ty, pos, aft, gd⟩) (w := w) h1 hev
      exact upon_ok h2 (hK0 e z w H (.refl _ _ _ _) hw h3)
/-- such an operation only adds boxes; who touches no box adds none -/
theorem popD_more {P : Program} {C : Orc} {ops : Array Oper} {ev : Operand → PV} {hp hp' : List Box} {o : Oper} {v : PV} (h : popD P C (isF ops o) ev hp o.op = some (v, hp')) (hk : kindO C.hs ops o ≠ 3) : ∃ more, hp' = hp ++ more ∧ (kindO C.hs ops o = 0 → more = []) := by
  have mp : ∀ {x : Option PV}, (x.map fun v => (v, hp)) = some (v, hp') → ∃ more, hp' = hp ++ more ∧ (kindO C.hs ops o = 0 → more = []) := fun hx => by
    obtain ⟨r, h1, e⟩ := Option.map_eq_some_iff.1 hx; cases e; exact ⟨[], by simp, fun _ => rfl⟩
  obtain ⟨dst, op, ty, pos, aft, gd⟩ := o
  simp only at h
  unfold popD at h
  split at h
  · rename_i hf
    have hk4 : kindO C.hs ops ⟨dst, op, ty, pos, aft, gd⟩ = 4 := by rw [isF_iff (hs := C.hs)] at hf; simpa using hf
    split at h
    · unfold pmkO at h
      split at h
      · split at h
        · split at h
          · obtain ⟨E, F, sz, z0, es', g1, g2, g3, g4, g5, g6, g7, g8, rfl, rfl⟩ := pappO_inv h (.inl rfl)
            exact ⟨_, rfl, fun e => by omega⟩
          · obtain ⟨E, F, sz, z0, es', g1, g2, g3, g4, g5, g6, g7, g8, rfl, rfl⟩ := pappO_inv h (.inr rfl)
            exact ⟨_, rfl, fun e => by omega⟩
          · cases h
        · cases h
      · cases h
    obtain ⟨⟨r, b⟩, h1, e⟩ := Option.map_eq_some_iff.1 h
    cases e
    exact ⟨_, rfl, fun e => by omega⟩
  · rename_i hf
    split at h
    · split at h
      · split at h
        · exact mp h
        · split at h
          · split at h
            · exact mp h
            · cases h
          · cases h
        · cases h
      · exact mp h
    · rename_i f args ats
      split at h
      · rename_i hh
        exact absurd (show kindO C.hs ops ⟨dst, .call { callee := .value f, args := args, argTypes := ats }, ty, pos, aft, gd⟩ = 3 by simp [kindO, hh]) hk
      rename_i hh
      obtain ⟨⟨r, more⟩, h1, e⟩ := Option.map_eq_some_iff.1 h
      cases e
      exact ⟨more, rfl, fun e => by simp [kindO, hh] at e⟩
    · rename_i nl nc
      unfold pop at h
      split at h
      all_goals first
        | (exact mp h; done)
        | (exact absurd rfl hk; done)
        | skip
      · split at h
        · exact mp h
        · obtain ⟨⟨r, bx⟩, h1, e⟩ := Option.map_eq_some_iff.1 h; cases e; exact ⟨[bx], rfl, fun e => by simp [kindO, kind] at e⟩
      all_goals first
        | (obtain ⟨⟨r, bx⟩, h1, e⟩ := Option.map_eq_some_iff.1 h; cases e; exact ⟨[bx], rfl, fun e => by exfalso; unfold kindO kind at e; first | (cases e; done) | (simp only at e; split at e <;> first | (cases e; done) | (simp_all; done))⟩; done)
        | skip
      · rename_i T len parts hl
        obtain ⟨⟨r, bx⟩, h1, e⟩ := Option.map_eq_some_iff.1 h
        cases e
        refine ⟨[bx], rfl, fun e => ?_⟩
        exfalso
        have : kindO C.hs ops ⟨dst, .buildSlice T len parts, ty, pos, aft, gd⟩ ≠ 0 := by
          unfold kindO kind
          simp only
          cases len with
          | zero => exact absurd rfl hl
          | succ n => simp
        exact this e
      · rename_i args ats
        exfalso
        have : kindO C.hs ops ⟨dst, .call { callee := .builtin .append, args := args, argTypes := ats }, ty, pos, aft, gd⟩ = 3 ∨ kindO C.hs ops ⟨dst, .call { callee := .builtin .append, args := args, argTypes := ats }, ty, pos, aft, gd⟩ = 4 := by
          unfold kindO
          simp only
          split
          · split
            · exact .inr rfl
            · exact .inl rfl
          · exact .inl rfl
        rcases this with e | e
        · exact hk e
        · rw [isF_iff (hs := C.hs), e] at hf; simp at hf
      all_goals first | (exact (nc _ _ _ rfl).elim; done) | skip
      · split at h <;> exact mp h
theorem hard_pop {P : Program} {C : Orc} {ops : Array Oper} {o : Oper} {ev : Operand → PV} {hp hp' : List Box} {v : PV} (h : popD P C (isF ops o) ev hp o.op = some (v, hp')) (hk : kindO C.hs ops o = 3) : pop P C ev hp o.op = some (v, hp') := by
  have hf : isF ops o = false := by rw [isF_iff (hs := C.hs)]; simp [hk]
  rw [hf] at h
  unfold popD at h
  simp only at h
  split at h
  · rename_i e
    simp only [kindO, e] at hk
    split at hk <;> omega
  · rename_i e
    split at h
    · rw [e]; exact h
    · rename_i hh
      simp [kindO, e, hh] at hk
  · exact h
section
variable {P : Program} {G : Nat → List PV} {C : Orc} {ops : Array Oper} {s s' : PS} {tr : Nat → PS} {vv : Nat → PV} {bb : Nat → Bool}
/-- has this operation made boxes? -/
def Mkd (tr : Nat → PS) (i : Nat) : Prop := (tr i).hp.length < (tr (i + 1)).hp.length
theorem Tr.heap (T : Tr P G C ops s s' tr vv bb) {i : Nat} {o : Oper} (ho : ops[i]? = some o) (hk : kindO C.hs ops o ≠ 3) : ∃ more, (tr (i + 1)).hp = (tr i).hp ++ more ∧ (kindO C.hs ops o = 0 ∨ bb i = false → more = []) := by
  cases hb : bb i with
  | false => exact ⟨[], by simp [(T.no i o ho hb).2], fun _ => rfl⟩
  | true =>
    obtain ⟨more, h1, h2⟩ := popD_more (T.yes i o ho hb) hk
    exact ⟨more, h1, fun e => h2 (e.resolve_right (by simp))⟩
/-- where boxes are not written they only become more; and the new ones have been made by someone -/
theorem Tr.seg (T : Tr P G C ops s s' tr vv bb) {m : Nat} : ∀ k, m + k ≤ ops.size → (∀ h o, m ≤ h → h < m + k → ops[h]? = some o → kindO C.hs ops o ≠ 3) →
    (∃ more, (tr (m + k)).hp = (tr m).hp ++ more) ∧ ∀ id, (tr m).hp.length ≤ id → id < (tr (m + k)).hp.length → ∃ i o, m ≤ i ∧ i < m + k ∧ ops[i]? = some o ∧ (tr i).hp.length ≤ id ∧ id < (tr (i + 1)).hp.length := by
  intro k
  induction k with
  | zero => intro _ _; exact ⟨⟨[], by simp⟩, fun id h1 h2 => by simp at h2; omega⟩
  | succ k ih =>
    intro hm hk
    obtain ⟨⟨more, h1⟩, h2⟩ := ih (by omega) (fun h o a b => hk h o a (by omega))
    have ho : ops[m + k]? = some (ops[m + k]'(by omega)) := Array.getElem?_eq_getElem (by omega)
    obtain ⟨mr, e, _⟩ := T.heap ho (hk (m + k) _ (by omega) (by omega) ho)
    rw [show m + (k + 1) = m + k + 1 by omega]
    refine ⟨⟨more ++ mr, by rw [e, h1]; simp⟩, fun id a b => ?_⟩
    by_cases hid : id < (tr (m + k)).hp.length
    · obtain ⟨i, o, q⟩ := h2 id a hid; exact ⟨i, o, q.1, by omega, q.2.2⟩
    · exact ⟨m + k, _, by omega, by omega, ho, by omega, b⟩
/-- a box that is read out of turn is never lost -/
theorem Tr.ulen (T : Tr P G C ops s s' tr vv bb) {q : Nat × Nat} (hq : q ∈ C.un) (hid : q.2 < s.hp.length) : ∀ j, j ≤ ops.size → q.2 < (tr j).hp.length := by
  intro j
  induction j with
  | zero => intro _; rw [T.first]; exact hid
  | succ j ih =>
    intro hj
    have hl := ih (by omega)
    have ho : ops[j]? = some (ops[j]'(by omega)) := Array.getElem?_eq_getElem (by omega)
    by_cases hk : kindO C.hs ops (ops[j]'(by omega)) = 3
    · cases hb : bb j with
      | false => rw [(T.no j _ ho hb).2]; exact hl
      | true => exact sameU_len (T.unt j _ ho hb hk) q hq hl
    · obtain ⟨more, h1, _⟩ := T.heap ho hk
      rw [h1, List.length_append]; omega
/-- what is left alone stays the same -/
theorem Tr.same (T : Tr P G C ops s s' tr vv bb) {t id : Nat} (hq : (t, id) ∈ C.un) (hid : id < s.hp.length) (a : Nat) : ∀ k, a + k ≤ ops.size → (∀ j o, a ≤ j → j < a + k → ops[j]? = some o → kindO C.hs ops o = 3 → t ∈ unord C.hs ops j) → (tr (a + k)).hp[id]? = (tr a).hp[id]? := by
  intro k
  induction k with
  | zero => intro _ _; rfl
  | succ k ih =>
    intro hk hu
    have e := ih (by omega) (fun j o h1 h2 => hu j o h1 (by omega))
    have hl := T.ulen hq hid (a + k) (by omega)
    have ho : ops[a + k]? = some (ops[a + k]'(by omega)) := Array.getElem?_eq_getElem (by omega)
    rw [show a + (k + 1) = a + k + 1 by omega, ← e]
    by_cases hk3 : kindO C.hs ops (ops[a + k]'(by omega)) = 3
    · cases hb : bb (a + k) with
      | false => rw [(T.no _ _ ho hb).2]
      | true => exact (sameU_at (T.unt _ _ ho hb hk3) (t, id) hq (hu _ _ (by omega) (by omega) ho hk3)).symm
    · obtain ⟨more, h1, _⟩ := T.heap ho hk3
      rw [h1, List.getElem?_append_left hl]
theorem next_hard (ops : Array Oper) : ∀ k m, m + k = ops.size → ∃ ν, m ≤ ν ∧ ν ≤ ops.size ∧ (∀ h o, m ≤ h → h < ν → ops[h]? = some o → kindO C.hs ops o ≠ 3) ∧ (ν < ops.size → ∀ o, ops[ν]? = some o → kindO C.hs ops o = 3) := by
  intro k
  induction k with
  | zero => intro m hm; exact ⟨m, Nat.le_refl _, by omega, fun h o a b => by omega, fun h => by omega⟩
  | succ k ih =>
    intro m hm
    have ho : ops[m]? = some (ops[m]'(by omega)) := Array.getElem?_eq_getElem (by omega)
    by_cases hk : kindO C.hs ops (ops[m]'(by omega)) = 3
    · exact ⟨m, Nat.le_refl _, by omega, fun h o a b => by omega, fun _ o h => by rw [ho] at h; cases h; exact hk⟩
    · obtain ⟨ν, h1, h2, h3, h4⟩ := ih (m + 1) (by omega)
      refine ⟨ν, by omega, h2, fun h o a b hh => ?_, h4⟩
      by_cases e : h = m
      · subst e; rw [ho] at hh; cases hh; exact hk
      · exact h3 h o (by omega) b hh

theorem kind0_pop {P : Program} {C : Orc} {ops : Array Oper} {o : Oper} {ev : Operand → PV} {hp hp' : List Box} {v : PV} (h : popD P C (isF ops o) ev hp o.op = some (v, hp')) (hk0 : kindO C.hs ops o = 0) : popA P ev o.op = some v ∨ ∃ T x, o.op = .load T x ∧ ((∃ cs, ev x = .cptr cs ∧ mk P T cs = some v) ∨ ∃ id off t, ev x = .ptr id off ∧ x = .tmp t ∧ roL C.hs T (.tmp t) = true ∧ (t, id) ∈ C.un ∧ pload P hp T (.ptr id off) = some v) := by
  have hf : isF ops o = false := by rw [isF_iff (hs := C.hs)]; simp [hk0]
  rw [hf] at h
  have hk : (kind o.op = 0 ∨ ∃ T x, o.op = .load T x ∧ roL C.hs T x = true) ∧ ∀ s t x, o.op = .convert s t x → ¬ C.hs (1000000 + t) = true := by
    unfold kindO at hk0
    split at hk0
    · split at hk0
      · split at hk0 <;> cases hk0
      · cases hk0
    · split at hk0 <;> cases hk0
    · rename_i q
      split at hk0
      · cases hk0
      · rename_i hc
        exact ⟨.inl (by rw [q]; rfl), fun s t x e => by rw [q] at e; cases e; exact hc⟩
    · rename_i q
      split at hk0
      · rename_i hc
        exact ⟨.inr ⟨_, _, q, hc⟩, fun s t x e => by rw [q] at e; cases e⟩
      · cases hk0
    · rename_i q _
      exact ⟨.inl hk0, fun s t x e => (q _ _ _ e).elim⟩
  obtain ⟨hk, hcv⟩ := hk
  obtain ⟨dst, op, ty, pos, aft, gd⟩ := o
  simp only at h hk hcv
  unfold popD at h
  simp only at h
  split at h
  · rename_i T x
    rcases hk with hk | ⟨T', x', e, hk⟩
    · cases hk
    · cases e
      rw [if_pos hk] at h
      refine .inr ⟨T, x, rfl, ?_⟩
      split at h
      · rename_i cs e1
        obtain ⟨r, h1, e⟩ := Option.map_eq_some_iff.1 h
        cases e; exact .inl ⟨cs, e1, h1⟩
      · rename_i id off e1
        split at h
        · rename_i t0
          split at h
          · rename_i hc
            obtain ⟨r, h1, e⟩ := Option.map_eq_some_iff.1 h
            cases e
            obtain ⟨q, hq, hq2⟩ := List.any_eq_true.1 hc
            simp only [Bool.and_eq_true, beq_iff_eq] at hq2
            exact .inr ⟨id, off, t0, e1, rfl, hk, by rw [← hq2.1, ← hq2.2]; exact hq, h1⟩
          · cases h
        · cases h
      · cases h
  · rcases hk with hk | ⟨T', x', e, hk⟩
    · cases hk
    · cases e
  · rename_i nl nc
    have hk : kind op = 0 := by
      rcases hk with hk | ⟨T', x', e, hk⟩
      · exact hk
      · exact (nl _ _ e).elim
    have key : popA P ev op = some v := by
      unfold pop at h
      split at h <;> first | (cases hk; done) | (exfalso; unfold kind at hk; split at hk <;> first | (cases hk; done) | (simp_all; done)) | skip
      · rw [if_neg (hcv _ _ _ rfl)] at h
        obtain ⟨r, h1, e⟩ := Option.map_eq_some_iff.1 h
        cases e; exact h1
      · obtain ⟨r, h1, e⟩ := Option.map_eq_some_iff.1 h
        cases e; exact h1
    exact .inl key
structure Inv (P : Program) (G : Nat → List PV) (C : Orc) (ops : Array Oper) (s s' : PS) (tr : Nat → PS) (vv : Nat → PV) (bb : Nat → Bool) (B : Nat → Prop) (D : Nat → Bool) (H : GH) (ρ : RM) (w : World) (a : Act) (m ν : Nat) : Prop where
  closed : ∀ (i : Nat) o, D i = true → ops[i]? = some o → ∀ j ∈ bnds o, D j = true
  gr : GRel H G
  df : a.defers = []
  sz : a.tmps.size = s.tmps.length
  tm : ∀ t, Rel H ρ (a.tmps.getD t undef) (cur ops D vv s ops.size t)
  mh : m = 0 ∨ ∃ o, ops[m - 1]? = some o ∧ kindO C.hs ops o = 3
  mν : m ≤ ν
  νn : ν ≤ ops.size
  hard : ∀ (h : Nat) o, ops[h]? = some o → kindO C.hs ops o = 3 → (D h = true ↔ h < m)
  seg : ∀ (h : Nat) o, m ≤ h → h < ν → ops[h]? = some o → kindO C.hs ops o ≠ 3
  nxt : ν < ops.size → ∀ o, ops[ν]? = some o → kindO C.hs ops o = 3
  wr : WR B H ρ w (tr ν).hp
  tot : ∀ id bx, (tr ν).hp[id]? = some bx → bx.st ≤ 1 → (id < (tr m).hp.length ∨ ∃ i o, m ≤ i ∧ i < ν ∧ ops[i]? = some o ∧ D i = true ∧ (tr i).hp.length ≤ id ∧ id < (tr (i + 1)).hp.length) → ∃ x, ρ id = some x
  non1 : ∀ id, (tr ν).hp.length ≤ id → ρ id = none
  non2 : ∀ (i : Nat) o, m ≤ i → i < ν → ops[i]? = some o → D i = false → ∀ id, (tr i).hp.length ≤ id → id < (tr (i + 1)).hp.length → ρ id = none
theorem Inv.sq {B : Nat → Prop} {D : Nat → Bool} {H : GH} {ρ : RM} {w : World} {a : Act} {m ν : Nat} (T : Tr P G C ops s s' tr vv bb) (h : Inv P G C ops s s' tr vv bb B D H ρ w a m ν) (hD : ∀ (i : Nat) o, m ≤ i → i < ν → ops[i]? = some o → Mkd tr i → D i = true) : SQ ρ (tr ν).hp := by
  refine ⟨fun id bx h1 h2 => h.tot id bx h1 h2 ?_, h.non1⟩
  by_cases hid : id < (tr m).hp.length
  · exact .inl hid
  · have hν : ν = m + (ν - m) := by have := h.mν; omega
    have hl := (List.getElem?_eq_some_iff.1 h1).1
    have := (T.seg (m := m) (ν - m) (by have := h.νn; have := h.mν; omega) (fun q o a b => h.seg q o a (by omega))).2 id (by omega) (by rw [← hν]; exact hl)
    obtain ⟨i, o, q1, q2, q3, q4, q5⟩ := this
    exact .inr ⟨i, o, q1, by omega, q3, hD i o q1 (by omega) q3 (by unfold Mkd; omega), q4, q5⟩
/-- the start, and behind an operation that writes boxes: the next piece -/
theorem Inv.begin {B : Nat → Prop} {D : Nat → Bool} {H : GH} {ρ : RM} {w : World} {a : Act} {m : Nat} (T : Tr P G C ops s s' tr vv bb) (mh : m = 0 ∨ ∃ o, ops[m - 1]? = some o ∧ kindO C.hs ops o = 3) (hm : m ≤ ops.size) (closed : ∀ (i : Nat) o, D i = true → ops[i]? = some o → ∀ j ∈ bnds o, D j = true) (gr : GRel H G) (df : a.defers = []) (sz : a.tmps.size = s.tmps.length) (tm : ∀ t, Rel H ρ (a.tmps.getD t undef) (cur ops D vv s ops.size t))
    (hard : ∀ (h : Nat) o, ops[h]? = some o → kindO C.hs ops o = 3 → (D h = true ↔ h < m)) (soft : ∀ (i : Nat) o, m ≤ i → ops[i]? = some o → Mkd tr i → kindO C.hs ops o ≠ 3 → D i = true → False) (wr : WR B H ρ w (tr m).hp) (sq : SQ ρ (tr m).hp) : ∃ ν, Inv P G C ops s s' tr vv bb B D H ρ w a m ν := by
  obtain ⟨ν, h1, h2, h3, h4⟩ := next_hard ops (ops.size - m) m (by omega)
  have hν : ν = m + (ν - m) := by omega
  obtain ⟨⟨more, q1⟩, q2⟩ := T.seg (m := m) (ν - m) (by omega) (fun q o a b => h3 q o a (by omega))
  rw [← hν] at q1 q2
  refine ⟨ν, closed, gr, df, sz, tm, mh, h1, h2, hard, h3, h4, ?_, ?_, ?_, ?_⟩
  · rw [q1]; exact wr.ext sq.fresh
  · intro id bx b1 b2 b3
    rcases b3 with b3 | ⟨i, o, c1, c2, c3, c6, c4, c5⟩
    · rw [q1, List.getElem?_append_left b3] at b1
      exact sq.tot id bx b1 b2
    · exact (soft i o c1 c3 (by unfold Mkd; omega) (h3 i o c1 c2 c3) c6).elim
  · intro id hid
    refine sq.fresh id ?_
    rw [q1] at hid; simp at hid; omega
  · intro i o c1 c2 c3 c4 id c5 c6
    refine sq.fresh _ ?_
    obtain ⟨⟨mr, e⟩, _⟩ := T.seg (m := m) (i - m) (by omega) (fun q o a b => h3 q o a (by omega))
    rw [show m + (i - m) = i by omega] at e
    rw [e] at c5; simp at c5; omega
theorem anc_in {D : Nat → Bool} (hc : ∀ (i : Nat) o, D i = true → ops[i]? = some o → ∀ j ∈ bnds o, D j = true) {i j : Nat} (h : Anc ops i j) : (∀ o, ops[i]? = some o → ∀ k ∈ bnds o, D k = true) → D j = true := by
  induction h with
  | one i j o ho hj => intro hp; exact hp o ho j hj
  | step i j k o ho hj _ ih => intro hp; exact ih fun p hq => hc j p (hp o ho j hj) hq
theorem conf_iff {o p : Oper} : conf C.hs ops o p = true ↔ (∃ t, o.dst = some t ∧ (t ∈ rd ops p ∨ p.dst = some t)) ∨ (∃ t, p.dst = some t ∧ t ∈ rd ops o) ∨ (kindO C.hs ops o = 3 ∧ 1 ≤ kindO C.hs ops p) ∨ (kindO C.hs ops p = 3 ∧ 1 ≤ kindO C.hs ops o) := by
  unfold conf
  simp only [Bool.or_eq_true, List.any_eq_true, Option.mem_toList, List.contains_iff_mem, Bool.and_eq_true, beq_iff_eq, decide_eq_true_eq, or_assoc]
end
def left (n : Nat) (D : Nat → Bool) : Nat := ((List.range n).filter fun i => !D i).length
theorem left_set {n i : Nat} {D D' : Nat → Bool} (hi : i < n) (h0 : D i = false) (h1 : D' i = true) (hD : ∀ j, j ≠ i → D' j = D j) : left n D' < left n D := by
  unfold left
  have key : ∀ k, ((List.range k).filter fun j => !D' j).length ≤ ((List.range k).filter fun j => !D j).length ∧ (i < k → ((List.range k).filter fun j => !D' j).length < ((List.range k).filter fun j => !D j).length) := by
    intro k
    induction k with
    | zero => exact ⟨Nat.le_refl _, fun h => by omega⟩
    | succ k ih =>
      rw [List.range_succ, List.filter_append, List.filter_append, List.length_append, List.length_append]
      by_cases hk : k = i
      · subst hk
        have e1 : List.filter (fun j => !D' j) [k] = [] := by simp [h1]
        have e2 : List.filter (fun j => !D j) [k] = [k] := by simp [h0]
        rw [e1, e2]
        simp
        omega
      · have e1 : List.filter (fun j => !D' j) [k] = List.filter (fun j => !D j) [k] := by simp [List.filter_cons, hD k hk]
        rw [e1]
        refine ⟨by omega, fun h => ?_⟩
        have := ih.2 (by omega)
        omega
  exact (key n).2 hi
theorem anc_lt {ops : Array Oper} (hb : ∀ (i : Nat) p, ops[i]? = some p → ∀ j ∈ bnds p, j < i) {i j : Nat} (h : Anc ops i j) : j < i := by
  induction h with
  | one i j o h hj => exact hb i o h j hj
  | step i j k o h hj _ ih => have := hb i o h j hj; omega
theorem draw_any {P : Program} {G : Nat → List PV} {C : Orc} {ops : Array Oper} {s s' : PS} {tr : Nat → PS} {vv : Nat → PV} {bb : Nat → Bool} (hC : OrcOk P G C) (hdr : drOk C.hs ops = true) (hU : ∀ q ∈ C.un, q.2 < s.hp.length) (T : Tr P G C ops s s' tr vv bb) {B : Nat → Prop} {Q : Exit → Act → World → Prop} {H0 : GH} {ρ0 : RM} {w0 : World}
    (hK : ∀ a' w' H' ρ', Step B H0 ρ0 w0 H' ρ' w' → StR G B H' ρ' w' a' s' → Q .normal a' w') :
    ∀ (fuel : Nat) (listed : Array Bool) (a : Act) (w : World) (H : GH) (ρ : RM) (m ν : Nat), listed.size = ops.size → left ops.size (fun i => listed.getD i false) ≤ fuel → Step B H0 ρ0 w0 H ρ w → Inv P G C ops s s' tr vv bb B (fun i => listed.getD i false) H ρ w a m ν → wpAny P .any ops Q fuel listed a w := by
  obtain ⟨hback, hconf⟩ := drOk_spec hdr
  -- when nobody is ready all have come up
  have fin : ∀ (listed : Array Bool) (a : Act) (w : World) (H : GH) (ρ : RM) (m ν : Nat), listed.size = ops.size → Step B H0 ρ0 w0 H ρ w → Inv P G C ops s s' tr vv bb B (fun i => listed.getD i false) H ρ w a m ν → (∀ i, i < ops.size → listed.getD i false = true) → Q .normal a w := by
    intro listed a w H ρ m ν hl hst hI hall
    have hm : m = ops.size ∨ ν = ops.size := by
      rcases Nat.lt_or_ge ν ops.size with hν | hν
      · have ho : ops[ν]? = some ops[ν] := Array.getElem?_eq_getElem hν
        have := (hI.hard ν _ ho (hI.nxt hν _ ho)).1 (hall ν hν)
        have := hI.mν; omega
      · right; have := hI.νn; omega
    have hν : ν = ops.size := by
      rcases hm with e | e
      · have := hI.mν; have := hI.νn; omega
      · exact e
    have hsq := hI.sq T (fun i o _ h2 ho _ => hall i (by have := (Array.getElem?_eq_some_iff.1 ho).1; exact this))
    have hwr := hI.wr
    rw [hν, T.last] at hwr hsq
    refine hK a w H ρ hst ⟨hwr, hsq, hI.gr, hI.df, ?_, fun t => ?_⟩
    · rw [hI.sz, ← T.last]; exact (T.len _ (Nat.le_refl _)).symm
    · have := hI.tm t
      rw [cur_tr T (m := ops.size) (Nat.le_refl _) (fun j hj _ => ⟨fun _ => hj, fun _ => hall j hj⟩) _ (Nat.le_refl _), Nat.min_self, T.last] at this
      exact this
  have allDone : ∀ listed : Array Bool, listed.size = ops.size → Region.ready .any ops listed = [] → ∀ i, i < ops.size → listed.getD i false = true := by
    intro listed hl hr i
    induction i using Nat.strongRecOn with
    | _ i ih =>
      intro hi
      cases hd : listed.getD i false with
      | true => rfl
      | false =>
        exfalso
        have ho : ops[i]? = some ops[i] := Array.getElem?_eq_getElem hi
        have : i ∈ Region.ready .any ops listed := by
          rw [mem_ready]
          refine ⟨?_, _, ho, fun e he hb => ?_⟩
          · rw [Array.getD_eq_getD_getElem?, Array.getElem?_eq_getElem (by omega)] at hd ⊢; exact hd
          · have hlt := hback i _ ho e.on (by unfold bnds; exact List.mem_map.2 ⟨e, List.mem_filter.2 ⟨Array.mem_toList_iff.2 he, hb⟩, rfl⟩)
            exact ih e.on hlt (by omega)
        rw [hr] at this; cases this
  intro fuel
  induction fuel with
  | zero =>
    intro listed a w H ρ m ν hl hf hst hI
    have hall : ∀ i, i < ops.size → listed.getD i false = true := fun i hi => by
      cases hd : listed.getD i false with
      | true => rfl
      | false =>
        have : i ∈ (List.range ops.size).filter fun i => !listed.getD i false := List.mem_filter.2 ⟨List.mem_range.2 hi, by rw [hd]; rfl⟩
        have := List.length_pos_of_mem this
        have hf' : ((List.range ops.size).filter fun i => !listed.getD i false).length ≤ 0 := hf
        omega
    refine ⟨?_, fin listed a w H ρ m ν hl hst hI hall⟩
    cases hr : Region.ready .any ops listed with
    | nil => rfl
    | cons i r =>
      exfalso
      have : i ∈ Region.ready .any ops listed := by rw [hr]; simp
      rw [mem_ready] at this
      obtain ⟨h0, o, ho, _⟩ := this
      have hi := (Array.getElem?_eq_some_iff.1 ho).1
      have := hall i hi
      rw [Array.getD_eq_getD_getElem?, Array.getElem?_eq_getElem (by omega)] at this h0
      simp at this h0
      rw [this] at h0; cases h0
  | succ fuel ih =>
    intro listed a w H ρ m ν hl hf hst hI
    refine ⟨fun hr => fin listed a w H ρ m ν hl hst hI (allDone listed hl hr), fun i hi => ?_⟩
    rw [mem_ready] at hi
    obtain ⟨h0, o, ho, hpred⟩ := hi
    have hin := (Array.getElem?_eq_some_iff.1 ho).1
    have hD0 : listed.getD i false = false := by
      rw [Array.getD_eq_getD_getElem?, Array.getElem?_eq_getElem (by omega)] at h0 ⊢; exact h0
    have hpred' : ∀ k ∈ bnds o, listed.getD k false = true := fun k hk => by
      unfold bnds at hk
      obtain ⟨e, he, rfl⟩ := List.mem_map.1 hk
      obtain ⟨he1, he2⟩ := List.mem_filter.1 he
      exact hpred e (Array.mem_toList_iff.1 he1) he2
    -- whoever conflicts and stands ahead has come up; who stands behind has not
    have before : ∀ (j : Nat) p, j < i → ops[j]? = some p → conf C.hs ops p o = true → listed.getD j false = true := fun j p hj hp hc =>
      anc_in hI.closed (hconf i j p o hj hp ho hc) (fun o' ho' k hk => by rw [ho] at ho'; cases ho'; exact hpred' k hk)
    have after : ∀ (j : Nat) p, i < j → ops[j]? = some p → conf C.hs ops o p = true → listed.getD j false = false := fun j p hj hp hc => by
      cases hd : listed.getD j false with
      | false => rfl
      | true =>
        have := anc_in hI.closed (hconf j i o p hj ho hp hc) (fun p' hp' k hk => by rw [hp] at hp'; cases hp'; exact hI.closed j p hd hp k hk)
        rw [hD0] at this; cases this
    have slot : ∀ t, (t ∈ rd ops o ∨ o.dst = some t) → ∀ j, j < ops.size → wrt ops j t → (listed.getD j false = true ↔ j < i) := fun t ht j hj hw => by
      have hp : ops[j]? = some ops[j] := Array.getElem?_eq_getElem hj
      have hd : ops[j].dst = some t := by unfold wrt at hw; rw [hp] at hw; exact hw
      rcases Nat.lt_trichotomy j i with hlt | heq | hgt
      · exact ⟨fun _ => hlt, fun _ => before j _ hlt hp (conf_iff.2 (.inl ⟨t, hd, ht⟩))⟩
      · subst heq; rw [hD0]; exact ⟨(fun e => by cases e), fun e => absurd e (Nat.lt_irrefl _)⟩
      · have := after j _ hgt hp (conf_iff.2 (by
          rcases ht with ht | ht
          · exact .inr (.inl ⟨t, hd, ht⟩)
          · exact .inl ⟨t, ht, .inr hd⟩))
        rw [this]; exact ⟨(fun e => by cases e), fun e => by omega⟩
    have htm : ∀ t, (t ∈ rd ops o ∨ o.dst = some t) → Rel H ρ (a.tmps.getD t undef) (getT (tr i).tmps t) := fun t ht => by
      have := hI.tm t
      rw [cur_tr T (m := i) (by omega) (slot t ht) _ (Nat.le_refl _), Nat.min_eq_right (by omega)] at this
      exact this
    have hev : ∀ x ∈ o.op.operands, Rel H ρ (a.eval x) (evP G (tr i).tmps x) := fun x hx => by
      cases x with
      | tmp t => exact htm t (.inl (by unfold rd; exact List.mem_append.2 (.inl (List.mem_flatMap.2 ⟨_, Array.mem_toList_iff.2 hx, by simp [opT]⟩))))
      | const v => exact ofConst_rel H ρ v
      | global g => exact (hI.gr g).up
      | func f => exact .fn f #[] [] rfl (fun i v c hv => by simp at hv)
    have hwant := pwant_sound2 (H := H) (ρ := ρ) (T.want i o ho) (fun t ht => htm t (.inl ht))
    -- the next set
    have hDne : ∀ j, j ≠ i → (listed.setIfInBounds i true).getD j false = listed.getD j false := fun j hj => getD_set_ne false (Ne.symm hj)
    have hDi : (listed.setIfInBounds i true).getD i false = true := by simp [hl, hin]
    have hl' : (listed.setIfInBounds i true).size = ops.size := by simpa using hl
    have hleft : left ops.size (fun j => (listed.setIfInBounds i true).getD j false) ≤ fuel := by
      have := left_set (D := fun j => listed.getD j false) (D' := fun j => (listed.setIfInBounds i true).getD j false) hin hD0 hDi hDne
      omega
    have hclosed' : ∀ (q : Nat) p, (listed.setIfInBounds i true).getD q false = true → ops[q]? = some p → ∀ k ∈ bnds p, (listed.setIfInBounds i true).getD k false = true := fun q p hq hp k hk => by
      by_cases e : q = i
      · subst e; rw [ho] at hp; cases hp; exact getD_set_true (hpred' k hk)
      · rw [hDne q e] at hq; exact getD_set_true (hI.closed q p hq hp k hk)
    have hcur : ∀ t, cur ops (fun j => (listed.setIfInBounds i true).getD j false) vv s ops.size t = if t < s.tmps.length ∧ wrt ops i t then vv i else cur ops (fun j => listed.getD j false) vv s ops.size t := fun t => by
      rw [cur_more (D := fun j => listed.getD j false) (i := i) hDne hDi hD0 (fun j hj1 hj2 hw1 hw2 => by
        have hp : ops[j]? = some ops[j] := Array.getElem?_eq_getElem hj2
        have h1 : ops[j].dst = some t := by unfold wrt at hw1; rw [hp] at hw1; exact hw1
        have h2 : o.dst = some t := by unfold wrt at hw2; rw [ho] at hw2; exact hw2
        exact after j _ hj1 hp (conf_iff.2 (.inl ⟨t, h2, .inr h1⟩))) _ (Nat.le_refl _)]
      simp [hin]
    have tmNext : ∀ (z : Value) (H' : GH) (ρ' : RM), H.le H' → ρ.le ρ' → Rel H' ρ' z (vv i) → ((a.put o.dst z).tmps.size = s.tmps.length ∧ ∀ t, Rel H' ρ' ((a.put o.dst z).tmps.getD t undef) (cur ops (fun j => (listed.setIfInBounds i true).getD j false) vv s ops.size t)) := fun z H' ρ' hH hρ hz => by
      have hsz : (a.put o.dst z).tmps.size = a.tmps.size := by cases hd : o.dst <;> simp [Act.put, hd]
      refine ⟨hsz.trans hI.sz, fun t => ?_⟩
      rw [hcur t]
      have h1 := (hI.tm t).mono hH hρ
      by_cases hw : wrt ops i t
      · have h2 : o.dst = some t := by unfold wrt at hw; rw [ho] at hw; exact hw
        rw [h2]
        by_cases hlt : t < s.tmps.length
        · rw [if_pos ⟨hlt, hw⟩]
          simp only [Act.put]
          rw [Array.getD_eq_getD_getElem?, Array.getElem?_setIfInBounds, if_pos rfl, if_pos (by rw [hI.sz]; exact hlt)]
          exact hz
        · rw [if_neg (fun e => hlt e.1)]
          simp only [Act.put]
          rw [Array.getD_eq_getD_getElem?, Array.getElem?_setIfInBounds, if_pos rfl, if_neg (by rw [hI.sz]; exact hlt)]
          rw [Array.getD_eq_getD_getElem?, Array.getElem?_eq_none (by rw [hI.sz]; exact Nat.le_of_not_lt hlt)] at h1
          exact h1
      · rw [if_neg (fun e => hw e.2)]
        have : (a.put o.dst z).tmps.getD t undef = a.tmps.getD t undef := by
          cases hd : o.dst with
          | none => rfl
          | some d =>
            have hne : d ≠ t := fun e => hw (by unfold wrt; rw [ho]; simp [hd, e])
            simp only [Act.put]
            rw [Array.getD_eq_getD_getElem?, Array.getElem?_setIfInBounds, if_neg hne, Array.getD_eq_getD_getElem?]
        rw [this]; exact h1
    have dfNext : ∀ z, (a.put o.dst z).defers = [] := fun z => by cases hd : o.dst <;> simp [Act.put, hI.df]
    -- where the operation stands
    have hardIff : ∀ (q : Nat) p, ops[q]? = some p → kindO C.hs ops p = 3 → 1 ≤ kindO C.hs ops o → q ≠ i → (listed.getD q false = true ↔ q < i) := fun q p hp hk hk1 hne => by
      rcases Nat.lt_or_gt_of_ne hne with hlt | hgt
      · exact ⟨fun _ => hlt, fun _ => before q p hlt hp (conf_iff.2 (.inr (.inr (.inl ⟨hk, hk1⟩))))⟩
      · have := after q p hgt hp (conf_iff.2 (.inr (.inr (.inr ⟨hk, hk1⟩))))
        rw [this]; exact ⟨(fun e => by cases e), fun e => by omega⟩
    have keepInv : ∀ (z : Value) (w' : World) (H' : GH), kindO C.hs ops o ≠ 3 → ¬ Mkd tr i → Step B H ρ w H' ρ w' → WR B H' ρ w' (tr ν).hp → Rel H' ρ z (vv i) → Inv P G C ops s s' tr vv bb B (fun j => (listed.setIfInBounds i true).getD j false) H' ρ w' (a.put o.dst z) m ν := fun z w' H' hk3 hk2 hs hw hz => by
      obtain ⟨q1, q2⟩ := tmNext z H' ρ hs.hH (.refl _) hz
      refine ⟨hclosed', hI.gr.mono hs.hH, dfNext z, q1, q2, hI.mh, hI.mν, hI.νn, fun h p hp hk => ?_, hI.seg, hI.nxt, hw, fun id bx b1 b2 b3 => ?_, hI.non1, fun q p c1 c2 c3 c4 => ?_⟩
      · have hne : h ≠ i := by rintro rfl; rw [ho] at hp; cases hp; exact hk3 hk
        simp only [hDne h hne]
        exact hI.hard h p hp hk
      · refine hI.tot id bx b1 b2 (b3.imp_right fun ⟨q, p, c1, c2, c3, c4, c5, c6⟩ => ?_)
        have hne : q ≠ i := by rintro rfl; exact hk2 (by unfold Mkd; omega)
        exact ⟨q, p, c1, c2, c3, by simpa only [hDne q hne] using c4, c5, c6⟩
      · have hne : q ≠ i := by rintro rfl; simp only [hDi] at c4; cases c4
        exact hI.non2 q p c1 c2 c3 (by simpa only [hDne q hne] using c4)
    have noM : ∀ hb : (tr (i + 1)).hp = (tr i).hp, ¬ Mkd tr i := fun hb => by unfold Mkd; rw [hb]; omega
    have noM0 : bb i = false → ¬ Mkd tr i := fun hb => noM (T.no i o ho hb).2
    unfold wpOp
    rw [ho]
    simp only
    by_cases hk3 : kindO C.hs ops o = 3
    · -- boxes are written
      have hge : m ≤ i := by
        rcases Nat.lt_or_ge i m with hlt | hge
        · have := (hI.hard i o ho hk3).2 hlt; simp only [hD0] at this; cases this
        · exact hge
      have hiν : i = ν := by
        rcases Nat.lt_trichotomy i ν with hlt | heq | hgt
        · exact absurd hk3 (hI.seg i o hge hlt ho)
        · exact heq
        · have hp : ops[ν]? = some (ops[ν]'(by omega)) := Array.getElem?_eq_getElem (by omega)
          have hkν := hI.nxt (by omega) _ hp
          have h1 := (hardIff ν _ hp hkν (by omega) (by omega)).2 hgt
          have := (hI.hard ν _ hp hkν).1 h1
          have := hI.mν; omega
      subst hiν
      have one : ∀ (q : Nat) p, ops[q]? = some p → kindO C.hs ops p ≠ 3 → Mkd tr q → 1 ≤ kindO C.hs ops p := fun q p c3 c5 c4 => by
        obtain ⟨more, e, h0⟩ := T.heap c3 c5
        rcases Nat.eq_zero_or_pos (kindO C.hs ops p) with hz | hz
        · rw [h0 (.inl hz)] at e
          unfold Mkd at c4; rw [e] at c4; simp at c4
        · exact hz
      have hsq := hI.sq T (fun q p c1 c2 c3 c4 => before q p c2 c3 (conf_iff.2 (.inr (.inr (.inr ⟨hk3, one q p c3 (hI.seg q p c1 c2 c3) c4⟩)))))
      have goOn : ∀ (z : Value) (w' : World) (H' : GH) (ρ' : RM), Step B H ρ w H' ρ' w' → WR B H' ρ' w' (tr (i + 1)).hp → SQ ρ' (tr (i + 1)).hp → Rel H' ρ' z (vv i) → wpAny P .any ops Q fuel (listed.setIfInBounds i true) (a.put o.dst z) w' := fun z w' H' ρ' hs hw hq hz => by
        obtain ⟨q1, q2⟩ := tmNext z H' ρ' hs.hH hs.hρ hz
        obtain ⟨ν', hI'⟩ := Inv.begin (B := B) (D := fun j => (listed.setIfInBounds i true).getD j false) T (.inr ⟨o, by simpa using ho, hk3⟩) (show i + 1 ≤ ops.size by omega) hclosed' (hI.gr.mono hs.hH) (dfNext z) q1 q2 (fun h p hp hk => by
          by_cases e : h = i
          · subst e; simp only [hDi]; exact ⟨fun _ => by omega, fun _ => trivial⟩
          · simp only [hDne h e]
            rw [hardIff h p hp hk (by omega) e]
            omega) (fun q p c1 c2 c3 c5 c4 => by
          have hne : q ≠ i := by omega
          simp only [hDne q hne] at c4
          rw [after q p (by omega) c2 (conf_iff.2 (.inr (.inr (.inl ⟨hk3, one q p c2 c5 c3⟩))))] at c4
          cases c4) hw hq
        exact ih _ _ w' H' ρ' (i + 1) ν' hl' hleft (hst.trans hs) hI'
      cases hb : bb i with
      | true =>
        rw [if_pos (by rw [hwant]; exact hb)]
        exact .inl (pop_sound hC hI.wr hsq hI.gr hev (hard_pop (T.yes i o ho hb) hk3) fun z w' H' ρ' k1 k2 k3 k4 => goOn z w' H' ρ' k1 k2 k3 k4)
      | false =>
        rw [if_neg (by rw [hwant, hb]; decide)]
        obtain ⟨e1, e2⟩ := T.no i o ho hb
        exact goOn undef w H ρ (.refl _ _ _ _) (by rw [e2]; exact hI.wr) (by rw [e2]; exact hsq) (by rw [e1]; exact undef_rel)
    · by_cases hk0 : kindO C.hs ops o = 0
      · -- no box is touched
        cases hb : bb i with
        | true =>
          rw [if_pos (by rw [hwant]; exact hb)]
          obtain ⟨z, h1, h2⟩ : ∃ z, (execOp a.eval o).run P w = .ok (.value z) w ∧ Rel H ρ z (vv i) := by
            rcases kind0_pop (T.yes i o ho hb) hk0 with h1 | ⟨T0, x0, e0, h1⟩
            · exact popA_sound (o := o) (w := w) h1 hev
            · have hl : pload P (tr ν).hp T0 (evP G (tr i).tmps x0) = some (vv i) := by
                rcases h1 with ⟨cs, e1, h1⟩ | ⟨id, off, t0, e1, ex0, hro, hm, h1⟩
                · rw [e1]; exact h1
                · rw [e1]
                  subst ex0
                  have hi : i ≤ ops.size := by omega
                  have e2 : (tr i).hp[id]? = (tr ν).hp[id]? := by
                    rcases Nat.le_total i ν with hle | hle
                    · have := T.same hm (hU _ hm) i (ν - i) (by have := hI.νn; omega) (fun j p h1 h2 hp hkp => unord_mem ho e0 hro (fun hA => by
                        -- i before j: then j < i
                        have := anc_lt hback hA; omega) (fun hA => by
                        have hDj := (hI.hard j p hp hkp).2 (by
                          rcases Nat.lt_or_ge j m with h | h
                          · exact h
                          · exact absurd hkp (hI.seg j p h (by omega) hp))
                        have := anc_in hI.closed hA (fun o' ho' k hk => hI.closed j o' hDj ho' k hk)
                        rw [hD0] at this; cases this))
                      rw [show i + (ν - i) = ν by omega] at this
                      exact this.symm
                    · have := T.same hm (hU _ hm) ν (i - ν) (by omega) (fun j p h1 h2 hp hkp => unord_mem ho e0 hro (fun hA => by
                        have hDj := anc_in hI.closed hA (fun o' ho' k hk => by rw [ho] at ho'; cases ho'; exact hpred' k hk)
                        have := (hI.hard j p hp hkp).1 hDj
                        have := hI.mν; omega) (fun hA => by have := anc_lt hback hA; omega))
                      rw [show ν + (i - ν) = i by omega] at this
                      exact this
                  unfold pload at h1 ⊢
                  simp only at h1 ⊢
                  rw [← e2]; exact h1
              have hx0 : x0 ∈ o.op.operands := by rw [e0]; simp [Op.operands]
              obtain ⟨z, h2, h3⟩ := pload_sound hI.wr hl (hev x0 hx0)
              exact ⟨z, by obtain ⟨dst, op, ty, pos, aft, gd⟩ := o; simp only at e0; subst e0; simp [execOp, Sem.run_bind, h2], h3⟩
          exact .inl (upon_ok h1 (ih _ _ w H ρ m ν hl' hleft hst (keepInv z w H hk3 (noM (by obtain ⟨more, e, h0⟩ := T.heap ho hk3; rw [h0 (.inl hk0)] at e; simpa using e)) (.refl _ _ _ _) hI.wr h2)))
        | false =>
          rw [if_neg (by rw [hwant, hb]; decide)]
          exact ih _ _ w H ρ m ν hl' hleft hst (keepInv undef w H hk3 (noM0 hb) (.refl _ _ _ _) hI.wr (by rw [(T.no i o ho hb).1]; exact undef_rel))
      · have hge : m ≤ i := by
          rcases Nat.lt_or_ge i m with hlt | hge
          · exfalso
            rcases hI.mh with e | ⟨p, hp, hkp⟩
            · omega
            · have h1 := (hI.hard (m - 1) p hp hkp).2 (by omega)
              have hne : m - 1 ≠ i := by rintro e; rw [e, ho] at hp; cases hp; exact hk3 hkp
              have := (hardIff (m - 1) p hp hkp (by omega) hne).1 h1
              omega
          · exact hge
        have hlt : i < ν := by
          rcases Nat.lt_or_ge i ν with h | h
          · exact h
          · exfalso
            have hp : ops[ν]? = some (ops[ν]'(by omega)) := Array.getElem?_eq_getElem (by omega)
            have hkν := hI.nxt (by omega) _ hp
            have hne : ν ≠ i := by rintro e; subst e; rw [ho] at hp; cases hp; exact hk3 hkν
            have h1 := (hardIff ν _ hp hkν (by omega) hne).2 (by omega)
            have := (hI.hard ν _ hp hkν).1 h1
            have := hI.mν; omega
        have pre : ∀ j, m ≤ j → j ≤ ν → ∃ more, (tr ν).hp = (tr j).hp ++ more := fun j h1 h2 => by
          obtain ⟨⟨more, e⟩, _⟩ := T.seg (m := j) (ν - j) (by have := hI.νn; omega) (fun q p a b => hI.seg q p (by omega) (by omega))
          rw [show j + (ν - j) = ν by omega] at e
          exact ⟨more, e⟩
        cases hb : bb i with
        | false =>
          rw [if_neg (by rw [hwant, hb]; decide)]
          exact ih _ _ w H ρ m ν hl' hleft hst (keepInv undef w H hk3 (noM0 hb) (.refl _ _ _ _) hI.wr (by rw [(T.no i o ho hb).1]; exact undef_rel))
        | true =>
          rw [if_pos (by rw [hwant]; exact hb)]
          obtain ⟨more, hmore⟩ := pre (i + 1) (by omega) (by omega)
          obtain ⟨mr, e2, _⟩ := T.heap ho hk3
          have hw := hI.wr
          have hm2 := hmore
          rw [e2, List.append_assoc] at hm2
          rw [hm2] at hw
          have hlen : (tr (i + 1)).hp.length ≤ (tr ν).hp.length := by rw [hmore]; simp
          have hlen0 : (tr i).hp.length ≤ (tr (i + 1)).hp.length := by rw [e2]; simp
          refine .inl (soft_sound hC hw.part hI.wr hI.gr hev (T.yes i o ho hb) hk3 (fun id h1 h2 => ⟨by rw [hmore, List.getElem?_append_left h2], hI.non2 i o hge hlt ho hD0 id h1 h2⟩) fun z w' H' ρ' k1 k2 k3 k4 k5 => ?_)
          refine ih _ _ w' H' ρ' m ν hl' hleft (hst.trans k1) ?_
          obtain ⟨q1, q2⟩ := tmNext z H' ρ' k1.hH k1.hρ k5
          refine ⟨hclosed', hI.gr.mono k1.hH, dfNext z, q1, q2, hI.mh, hI.mν, hI.νn, fun h p hp hk => ?_, hI.seg, hI.nxt, k2, fun id bx' b1 b2 b3 => ?_, fun id hid' => ?_, fun q p c1 c2 c3 c4 id c5 c6 => ?_⟩
          · have hne : h ≠ i := by rintro rfl; rw [ho] at hp; cases hp; exact hk3 hk
            simp only [hDne h hne]
            exact hI.hard h p hp hk
          · by_cases e : (tr i).hp.length ≤ id ∧ id < (tr (i + 1)).hp.length
            · exact k4 id bx' e.1 e.2 (by rw [hmore, List.getElem?_append_left e.2] at b1; exact b1) b2
            · rw [k3 id e]
              refine hI.tot id bx' b1 b2 (b3.imp_right fun ⟨q, p, c1, c2, c3, c4, c5, c6⟩ => ?_)
              have hne : q ≠ i := by rintro rfl; exact e ⟨c5, c6⟩
              exact ⟨q, p, c1, c2, c3, by simpa only [hDne q hne] using c4, c5, c6⟩
          · rw [k3 id (by omega)]
            exact hI.non1 id hid'
          · have hne : q ≠ i := by rintro rfl; simp only [hDi] at c4; cases c4
            have hρq := hI.non2 q p c1 c2 c3 (by simpa only [hDne q hne] using c4) id c5 c6
            have grow : ∀ (u v : Nat), m ≤ u → u ≤ v → v ≤ ν → (tr u).hp.length ≤ (tr v).hp.length := fun u v a1 a2 a3 => by
              obtain ⟨⟨mr, e'⟩, _⟩ := T.seg (m := u) (v - u) (by have := hI.νn; omega) (fun q p a b => hI.seg q p (by omega) (by omega))
              rw [show u + (v - u) = v by omega] at e'
              rw [e', List.length_append]; omega
            rw [k3 id ?_]
            · exact hρq
            · rintro ⟨d1, d2⟩
              rcases Nat.lt_or_gt_of_ne hne with h | h
              · have := grow (q + 1) i (by omega) (by omega) (by omega); omega
              · have := grow (i + 1) q (by omega) (by omega) (by omega); omega
/-- **a region whose order is drawn does what its text says** -/
theorem draw_sound {P : Program} {G : Nat → List PV} {C : Orc} (hm : P.follows .mixedOrders = true) (hC : OrcOk P G C) {ops : Array Oper} (hdr : drOk C.hs ops = true) {n id : Nat} {B : Nat → Prop} {Q : Exit → Act → World → Prop} {H : GH} {ρ : RM} {w : World} {a : Act} {s s' : PS} (h : StR G B H ρ w a s) (hp : pseqD P G C ops ops.toList s = some s') (hU : ∀ q ∈ C.un, q.2 < s.hp.length) (hu : Unt P G C ops 0 ops.toList s)
    (hK : ∀ a' w' H' ρ', Stp n B H ρ w H' ρ' w' → StR G B H' ρ' w' a' s' → Q .normal a' w') : (Code.region id ops true).wp P Q a w := by
  obtain ⟨tr, vv, bb, T⟩ := tr_make hp hu
  refine wp_region_any hm ?_
  have hdrew : Step B H ρ w H ρ w.drew := ⟨.refl _, .refl _, fun _ _ _ _ h => h, (Bel.refl _ _).drew⟩
  have hfalse : ∀ i, (Array.replicate ops.size false).getD i false = false := fun i => by
    rw [Array.getD_eq_getD_getElem?, Array.getElem?_replicate]; split <;> rfl
  obtain ⟨ν, hI⟩ := Inv.begin (B := B) (D := fun i => (Array.replicate ops.size false).getD i false) (H := H) (ρ := ρ) (w := w.drew) (a := a) (m := 0) T (.inl rfl) (Nat.zero_le _) (fun i o hi => by simp only [hfalse] at hi; cases hi) h.gr h.df h.sz (fun t => by
    have := cur_tr T (D := fun i => (Array.replicate ops.size false).getD i false) (m := 0) (t := t) (Nat.zero_le _) (fun j _ _ => by simp only [hfalse]; exact ⟨(fun e => by cases e), fun e => by omega⟩) _ (Nat.le_refl _)
    rw [Nat.min_eq_right (Nat.zero_le _), T.first] at this
    rw [this]; exact h.tm t) (fun q o ho hk => by simp only [hfalse]; exact ⟨(fun e => by cases e), fun e => by omega⟩) (fun i o _ _ _ _ hD => by simp only [hfalse] at hD; cases hD) (by rw [T.first]; exact h.wr.drew) (by rw [T.first]; exact h.sq)
  refine draw_any hC hdr hU T (B := B) (H0 := H) (ρ0 := ρ) (w0 := w) (fun a' w' H' ρ' k1 k2 => hK a' w' H' ρ' k1.stp k2) ops.size _ a _ H ρ 0 ν (by simp) ?_ hdrew hI
  unfold left
  have := List.length_filter_le (fun i => !(Array.replicate ops.size false).getD i false) (List.range ops.size)
  simpa using this
end Go.Proofs.YtfhojpnofmlkdaaDoor.Pv
