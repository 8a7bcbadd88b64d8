/- Types whose slices have a bound, and the walk of a law over them. -/
import Derived.Test.YtfhojpnofmlkdaaDoorCx
namespace Go.Proofs.YtfhojpnofmlkdaaDoor.Pv
open Go.RowKit Go.ChangeShapes
set_option linter.unusedSimpArgs false
set_option linter.unusedVariables false
set_option maxHeartbeats 1000000
/-- the cells of a value of type t -/
def TyZ (P : Program) : Nat → TypeId → List PV → Prop
  | 0, _, _ => False
  | n + 1, t, pcs =>
    match P.underlying t with
    | some .bool => ∃ b, pcs = [.bool b]
    | some (.int k) => ∃ i : Int, pcs = [.int k i] ∧ k.min ≤ i ∧ i ≤ k.max
    | some .string => ∃ s : ByteArray, pcs = [.str s] ∧ s.size ≤ maxLen
    | some (.slice e) => (P.cellsOf e = 0 ∧ pcs = [.any]) ∨ ∃ es : List PV, pcs = [.lst (P.cellsOf e) es] ∧ (es.length ≤ maxLen ∧ es.length * P.bytesOf e ≤ reachBytes) ∧ ∀ x ∈ es, ∃ xs, x = elemOf (P.cellsOf e) xs ∧ TyZ P n e xs
    | some (.struct fs) => ∃ parts : List (List PV), pcs = parts.flatten ∧ parts.length = fs.size ∧ ∀ (i : Nat) f p, fs[i]? = some f → parts[i]? = some p → TyZ P n f.type p
    | some (.array m e) => ∃ parts : List (List PV), pcs = parts.flatten ∧ parts.length = m ∧ ∀ p ∈ parts, TyZ P n e p
    | _ => pcs = [.any]
theorem wAll_mem {Hd : Type} {P : Program} {e : TypeId} {p : Nat → Bool} : ∀ {l : List (DataW Hd)} {d : DataW Hd}, (DataW.weightsAll P e l).all p = true → d ∈ l → (d.weights P e).all p = true
  | [], _, _, h => by simp at h
  | a :: l, d, hp, h => by
    rw [DataW.weightsAll, List.all_append, Bool.and_eq_true] at hp
    rcases List.mem_cons.1 h with rfl | h
    · exact hp.1
    · exact wAll_mem hp.2 h
theorem wEach_at {Hd : Type} {P : Program} {p : Nat → Bool} : ∀ {ts : List TypeId} {ds : List (DataW Hd)} {i : Nat} {t : TypeId} {d : DataW Hd}, (DataW.weightsEach P ts ds).all p = true → ts[i]? = some t → ds[i]? = some d → (d.weights P t).all p = true
  | [], _, _, _, _, _, h, _ => by simp at h
  | _ :: _, [], _, _, _, _, _, h => by simp at h
  | a :: ts, b :: ds, i, t, d, hp, ht, hd => by
    rw [DataW.weightsEach, List.all_append, Bool.and_eq_true] at hp
    cases i with
    | zero => simp at ht hd; subst ht; subst hd; exact hp.1
    | succ i => exact wEach_at hp.2 (by simpa using ht) (by simpa using hd)
theorem trod_pvZ {Hd : Type} {enc : TypeId × Value → Hd} {P : Program} {w : World} {base : Nat} {spare : Nat → Bool} {held : Bool} (hL : layB P = true) : ∀ (fuel : Nat) (t : TypeId) (cs : List Value) (x : DataW Hd × List MemPlace), t < P.types.size → DataW.trod enc P w base spare held fuel t cs = some x → (x.1.weights P t).all (· ≤ reachBytes) = true → ∃ pcs, TyZ P fuel t pcs ∧ RelL (HW w) RM.nil cs pcs := by
  intro fuel
  induction fuel with
  | zero => intro t cs x ht h _; simp [DataW.trod] at h
  | succ fuel ih =>
    intro t csx x htl h hw
    have hat := layB_at hL htl
    unfold layAt at hat
    have any1 : ∀ v, (match P.underlying t with | some .bool | some (.int _) | some .string | some (.slice _) | some (.struct _) | some (.array _ _) => False | _ => True) → csx = [v] → ∃ pcs, TyZ P (fuel + 1) t pcs ∧ RelL (HW w) RM.nil csx pcs := fun v hv e => by
      refine ⟨[.any], ?_, by rw [e]; exact .one (.any v)⟩
      unfold TyZ
      split <;> first | rfl | (rename_i e; rw [e] at hv; exact hv.elim)
    unfold DataW.trod at h
    split at h
    · rename_i b hT; exact ⟨[.bool b], by unfold TyZ; rw [hT]; exact ⟨b, rfl⟩, .one (.bool b)⟩
    · rename_i k k' n hT
      split at h
      · rename_i hc
        obtain ⟨rfl, hwf⟩ := hc
        have hwf' : k'.min ≤ n ∧ n ≤ k'.max := by simpa [Lit.wf] using hwf
        exact ⟨[.int k' n], by unfold TyZ; rw [hT]; exact ⟨n, rfl, hwf'⟩, .one (.int k' n)⟩
      · cases h
    · rename_i hT; exact any1 _ (by rw [hT]; trivial) rfl
    · rename_i s hT
      split at h
      · rename_i hs; exact ⟨[.str s], by unfold TyZ; rw [hT]; exact ⟨s, rfl, hs⟩, .one (.str s)⟩
      · cases h
    · rename_i hT; exact any1 _ (by rw [hT]; trivial) rfl
    · rename_i hT; exact any1 _ (by rw [hT]; trivial) rfl
    · rename_i e hT
      refine ⟨[.lst (P.cellsOf e) []], by unfold TyZ; rw [hT]; exact .inr ⟨[], rfl, ⟨by simp, by simp⟩, fun x hx => by simp at hx⟩, .one ?_⟩
      exact .lst none 0 _ [] 0 0 (fun _ => undef) (fun _ => []) (Nat.le_refl _) (fun h => absurd rfl h) (fun j hj => by simp at hj) (fun i e h => by simp at h) (fun i j c h => by simp at h)
    · rename_i e a len cap hT
      rw [hT] at hat
      have hel0 : e < P.types.size := of_decide_eq_true hat
      split at h
      · rename_i hc
        obtain ⟨_, c2, c3⟩ := hc
        by_cases hz : P.cellsOf e = 0
        · exact ⟨[.any], by unfold TyZ; rw [hT]; exact .inl ⟨hz, rfl⟩, .one (.any _)⟩
        · obtain ⟨elems, h1, h9⟩ := Option.bind_eq_some_iff.1 h
          obtain ⟨rest, _, rfl⟩ := Option.map_eq_some_iff.1 h9
          simp only [DataW.weights, hT, List.all_cons, List.all_append, Bool.and_eq_true, decide_eq_true_eq] at hw
          have hel : ∀ i, i < len → ∃ ecs y, w.cells? base (a.add (i * P.cellsOf e)) (P.cellsOf e) = some ecs ∧ DataW.trod enc P w base spare held fuel e ecs = some y ∧ y ∈ elems := fun i hi => by
            have hlen := mapM_some_length h1
            have := mapM_some_get h1 i i (by simp [hi])
            have hi' : i < elems.length := by rw [hlen]; simpa using hi
            rw [List.getElem?_eq_getElem hi'] at this
            obtain ⟨ecs, q1, q2⟩ := Option.bind_eq_some_iff.1 this
            exact ⟨ecs, _, q1, q2, List.getElem_mem hi'⟩
          have hp : ∀ i, ∃ p, i < len → TyZ P fuel e p ∧ ∃ ecs, w.cells? base (a.add (i * P.cellsOf e)) (P.cellsOf e) = some ecs ∧ RelL (HW w) RM.nil ecs p := fun i => by
            by_cases hi : i < len
            · obtain ⟨ecs, y, q1, q2, q3⟩ := hel i hi
              obtain ⟨p, r1, r2⟩ := ih e ecs y hel0 q2 (wAll_mem hw.2.1 (List.mem_map.2 ⟨y, q3, rfl⟩))
              exact ⟨p, fun _ => ⟨r1, ecs, q1, r2⟩⟩
            · exact ⟨[], fun h => absurd h hi⟩
          obtain ⟨f, hf⟩ := Classical.axiomOfChoice hp
          have cellAt : ∀ i, i < len → ∀ q, q < P.cellsOf e → w.cell? ⟨a.block, a.off + (i * P.cellsOf e + q), none⟩ = w.cell? ((a.add (i * P.cellsOf e)).add q) := fun i hi q hq => by
            obtain ⟨_, ecs, q1, _⟩ := hf i hi
            obtain ⟨l1, l2⟩ := cells_get q1
            have hs : (a.add (i * P.cellsOf e)).spot = none := by
              have := l2 0 (by omega)
              rw [List.getElem?_eq_getElem (by omega)] at this
              have := cell_spot this
              simpa [Addr.add] using this
            obtain ⟨b, o, sp⟩ := a
            congr 1
            unfold Addr.add at hs ⊢
            by_cases h0 : i * P.cellsOf e = 0
            · rw [if_pos h0] at hs ⊢
              simp only at hs
              subst hs
              rw [h0]
              by_cases hq0 : q = 0
              · subst hq0; simp
              · rw [if_neg hq0]; simp
            · rw [if_neg h0]
              by_cases hq0 : q = 0
              · subst hq0; simp
              · rw [if_neg hq0]; simp [Nat.add_assoc]
          refine ⟨[.lst (P.cellsOf e) ((List.range len).map fun i => elemOf (P.cellsOf e) (f i))], ?_, .one ?_⟩
          · unfold TyZ; rw [hT]
            refine .inr ⟨_, rfl, ⟨by simp; omega, ?_⟩, fun x hx => ?_⟩
            · have hlen := mapM_some_length h1
              have hw1 := hw.1
              simp only [List.length_map, List.length_range] at hlen hw1 ⊢
              rw [hlen] at hw1
              exact Nat.le_trans (Nat.mul_le_mul_right _ (Nat.le_add_right _ _)) hw1
            obtain ⟨i, hi, rfl⟩ := List.mem_map.1 hx
            exact ⟨f i, rfl, (hf i (by simpa using hi)).1⟩
          · have e0 := Rel.lst (H := HW w) (ρ := RM.nil) (some a) cap (P.cellsOf e) ((List.range len).map fun i => elemOf (P.cellsOf e) (f i)) a.block a.off (fun j => (HW w a.block (a.off + j)).getD undef) f (by simpa using c2) (fun hne => by
              have hl0 : 0 < len := by
                rcases Nat.eq_zero_or_pos len with e | e
                · rw [e] at hne; simp at hne
                · exact e
              obtain ⟨_, ecs, q1, _⟩ := hf 0 hl0
              obtain ⟨l1, l2⟩ := cells_get q1
              have := l2 0 (by omega)
              rw [List.getElem?_eq_getElem (by omega)] at this
              have := cell_spot this
              have hs : a.spot = none := by simpa [Addr.add] using this
              obtain ⟨b, o, sp⟩ := a
              simp only at hs; subst hs; rfl) (fun j hj => by
              simp only [List.length_map, List.length_range] at hj
              have hi : j / P.cellsOf e < len := Nat.div_lt_of_lt_mul (by rw [Nat.mul_comm]; exact hj)
              have hq : j % P.cellsOf e < P.cellsOf e := Nat.mod_lt _ (by omega)
              have hj2 : j / P.cellsOf e * P.cellsOf e + j % P.cellsOf e = j := by rw [Nat.mul_comm]; exact Nat.div_add_mod _ _
              obtain ⟨_, ecs, q1, _⟩ := hf _ hi
              obtain ⟨l1, l2⟩ := cells_get q1
              have h3 := l2 _ hq
              rw [← cellAt _ hi _ hq, hj2, List.getElem?_eq_getElem (by omega)] at h3
              show HW w a.block (a.off + j) = _
              unfold HW
              rw [h3]; rfl) (fun i x hx => by
              rw [List.getElem?_map] at hx
              obtain ⟨k, hk, rfl⟩ := Option.map_eq_some_iff.1 hx
              obtain ⟨hk1, hk2⟩ := List.getElem?_eq_some_iff.1 hk
              simp at hk1 hk2; subst hk2
              obtain ⟨_, ecs, q1, q2⟩ := hf i hk1
              exact ⟨elemOf_cells _ _, by rw [← q2.1]; exact (cells_get q1).1⟩) (fun i j c hi hc => by
              simp only [List.length_map, List.length_range] at hi
              obtain ⟨_, ecs, q1, q2⟩ := hf i hi
              obtain ⟨l1, l2⟩ := cells_get q1
              have hj : j < P.cellsOf e := by rw [← l1, q2.1]; exact (List.getElem?_eq_some_iff.1 hc).1
              have h3 := l2 j hj
              rw [← cellAt i hi j hj, List.getElem?_eq_getElem (by omega)] at h3
              show Rel (HW w) RM.nil ((HW w a.block (a.off + (i * P.cellsOf e + j))).getD undef) c
              unfold HW
              rw [h3]
              exact q2.2 j _ c (List.getElem?_eq_getElem (by omega)) hc)
            simpa using e0
      · cases h
    · rename_i csx xo cs' fs hT
      rw [hT] at hat
      simp only [Bool.and_eq_true, Array.all_eq_true_iff_forall_mem, decide_eq_true_eq] at hat
      split at h
      · rename_i hlen
        obtain ⟨xs, h1, rfl⟩ := Option.map_eq_some_iff.1 h
        simp only [DataW.weights, hT] at hw
        obtain ⟨parts, p1, p2, p3⟩ := consec_parts (H := HW w) (ρ := RM.nil) (cs := csx) (T := fun f p => TyZ P fuel f.type p) fs.toList 0 (by rw [hlen]; exact hat.1) (fun i f hf => by
          have hl := mapM_some_length h1
          have h2 := mapM_some_get h1 i f hf
          have hi : i < xs.length := by rw [hl]; exact (List.getElem?_eq_some_iff.1 hf).1
          rw [List.getElem?_eq_getElem hi] at h2
          obtain ⟨p, r1, r2⟩ := ih _ _ _ (hat.2 f (Array.mem_toList_iff.1 (List.mem_of_getElem? hf))) h2 (wEach_at (i := i) hw (by rw [List.getElem?_map, hf]; rfl) (by rw [List.getElem?_map, List.getElem?_eq_getElem hi]; rfl))
          exact ⟨p, r1, r2⟩)
        refine ⟨parts.flatten, ?_, by simpa using p3⟩
        unfold TyZ; rw [hT]
        exact ⟨parts, rfl, by simpa using p1, fun i f p hf hp => p2 i f p (by rw [Array.getElem?_toList]; exact hf) hp⟩
      · cases h
    · rename_i csx xo cs' m e hT
      rw [hT] at hat
      simp only [Bool.and_eq_true, beq_iff_eq, decide_eq_true_eq] at hat
      split at h
      · rename_i hlen
        obtain ⟨xs, h1, rfl⟩ := Option.map_eq_some_iff.1 h
        simp only [DataW.weights, hT] at hw
        obtain ⟨parts, p1, p2, p3⟩ := list_of (P := P) (H := HW w) (ρ := RM.nil) (cs := csx) (sz := P.cellsOf e) (T := fun p => TyZ P fuel e p) m 0 (by rw [hlen, hat.1]; omega) (fun i hi => by
          have hl := mapM_some_length h1
          have h2 := mapM_some_get h1 i i (by simp [hi])
          have hi' : i < xs.length := by rw [hl]; simpa using hi
          rw [List.getElem?_eq_getElem hi'] at h2
          obtain ⟨p, r1, r2⟩ := ih _ _ _ hat.2 h2 (wAll_mem hw (List.mem_map.2 ⟨_, List.getElem_mem hi', rfl⟩))
          exact ⟨p, r1, by rw [Nat.zero_add]; exact r2⟩)
        refine ⟨parts.flatten, ?_, by simpa using p3⟩
        unfold TyZ; rw [hT]
        exact ⟨parts, rfl, p1, p2⟩
      · cases h
    all_goals first | (cases h; done) | (rename_i hT; exact any1 _ (by rw [hT]; trivial) rfl)
inductive TysZ (P : Program) : List TypeId → List PV → Prop
  | nil : TysZ P [] []
  | cons (t : TypeId) (ts : List TypeId) (fuel : Nat) (pcs : List PV) (al : List PV) (h : TyZ P fuel t pcs) (hs : TysZ P ts al) : TysZ P (t :: ts) (valOf P t pcs :: al)
theorem trod_allZ {Hd : Type} {enc : TypeId × Value → Hd} {P : Program} {W : World} {base : Nat} (hL : layB P = true) {us : List TypeId} {gs : List (DataW Hd)} : ∀ (ts : List TypeId) (vs : List Value) (ds : List (DataW Hd)) (p : List MemPlace), (∀ t ∈ ts, t < P.types.size) → (∀ (j : Nat) t v, ts[j]? = some t → vs[j]? = some v → Value.okWide P W .any base t v) → DataW.TrodAll enc P W 0 (fun _ => true) true ts vs ds p → (DataW.weightsEach P (ts ++ us) (ds ++ gs)).all (· ≤ reachBytes) = true → ∃ al, TysZ P ts al ∧ RelL (HW W) RM.nil vs al := by
  intro ts
  induction ts with
  | nil =>
    intro vs ds p _ _ h _
    cases vs <;> cases ds <;> simp [DataW.TrodAll] at h
    exact ⟨[], .nil, .nil⟩
  | cons t ts ih =>
    intro vs ds p ht hv h hw
    obtain ⟨v, vs', d, ds', p1, q, rfl, rfl, rfl, h0, h1⟩ := trodAll_cons h
    rw [List.cons_append, List.cons_append, DataW.weightsEach, List.all_append, Bool.and_eq_true] at hw
    obtain ⟨al, h2, h3⟩ := ih vs' ds' q (fun t h => ht t (List.mem_cons_of_mem _ h)) (fun j t v h4 h5 => hv (j + 1) t v h4 h5) h1 hw.2
    obtain ⟨fuel, hf⟩ := h0
    obtain ⟨pcs, h4, h5⟩ := trod_pvZ hL fuel t v.cells.toList _ (ht t (List.mem_cons_self ..)) hf hw.1
    refine ⟨valOf P t pcs :: al, .cons t ts fuel pcs al h4 h2, ?_⟩
    have hok := hv 0 t v rfl rfl
    have hv1 : Rel (HW W) RM.nil v (valOf P t pcs) := by
      have flat : (∀ cs, v ≠ .agg cs) → Rel (HW W) RM.nil v (pcs.headD .any) := fun hne => by
        have : v.cells.toList = [v] := by cases v <;> first | rfl | exact absurd rfl (hne _)
        rw [this] at h5
        match pcs, h5.1 with
        | [c], _ => exact h5.2 0 v c rfl rfl
      unfold valOf
      unfold Value.okWide at hok
      split
      · rename_i fs hT
        rw [hT] at hok
        obtain ⟨cs, rfl, _⟩ := hok
        exact .agg _ _ (by have := h5.1; simpa [Value.cells] using this) fun i v c hv hc => h5.2 i v c (by simpa [Value.cells] using hv) hc
      · rename_i m e hT
        rw [hT] at hok
        obtain ⟨cs, rfl, _⟩ := hok
        exact .agg _ _ (by have := h5.1; simpa [Value.cells] using this) fun i v c hv hc => h5.2 i v c (by simpa [Value.cells] using hv) hc
      · rename_i n1 n2
        refine flat fun cs e => ?_
        subst e
        split at hok
        · rename_i hT; exact n1 _ hT
        · rename_i hT; exact n2 _ _ hT
        · unfold Cell.okWide Cell.ok at hok
          cases hd : P.underlying t with
          | none => rw [hd] at hok; exact hok
          | some d => rw [hd] at hok; cases d <;> exact hok
    have := (RelL.one hv1).append h3
    exact this
theorem ty_intZ {P : Program} {n : Nat} {t : TypeId} {k : IntKind} {p : List PV} (ht : P.underlying t = some (.int k)) (h : TyZ P n t p) : ∃ i : Int, p = [.int k i] ∧ k.min ≤ i ∧ i ≤ k.max := by
  cases n with
  | zero => exact h.elim
  | succ n => unfold TyZ at h; rw [ht] at h; exact h
theorem ty_boolZ {P : Program} {n : Nat} {t : TypeId} {p : List PV} (ht : P.underlying t = some .bool) (h : TyZ P n t p) : ∃ b, p = [.bool b] := by
  cases n with
  | zero => exact h.elim
  | succ n => unfold TyZ at h; rw [ht] at h; exact h
theorem ty_strZ {P : Program} {n : Nat} {t : TypeId} {p : List PV} (ht : P.underlying t = some .string) (h : TyZ P n t p) : ∃ s : ByteArray, p = [.str s] ∧ s.size ≤ maxLen := by
  cases n with
  | zero => exact h.elim
  | succ n => unfold TyZ at h; rw [ht] at h; exact h
theorem ty_structZ {P : Program} {n : Nat} {t : TypeId} {fs : Array Field} {p : List PV} (ht : P.underlying t = some (.struct fs)) (h : TyZ P n t p) : ∃ (m : Nat) (parts : List (List PV)), p = parts.flatten ∧ parts.length = fs.size ∧ ∀ (i : Nat) f q, fs[i]? = some f → parts[i]? = some q → TyZ P m f.type q := by
  cases n with
  | zero => exact h.elim
  | succ n => unfold TyZ at h; rw [ht] at h; exact ⟨n, h⟩
theorem ty_sliceZ {P : Program} {n : Nat} {t e : TypeId} {p : List PV} (ht : P.underlying t = some (.slice e)) (hz : P.cellsOf e ≠ 0) (h : TyZ P n t p) : ∃ m, ∃ es : List PV, p = [.lst (P.cellsOf e) es] ∧ (es.length ≤ maxLen ∧ es.length * P.bytesOf e ≤ reachBytes) ∧ ∀ x ∈ es, ∃ xs, x = elemOf (P.cellsOf e) xs ∧ TyZ P m e xs := by
  cases n with
  | zero => exact h.elim
  | succ n =>
    unfold TyZ at h; rw [ht] at h
    rcases h with ⟨h, _⟩ | h
    · exact absurd h hz
    · exact ⟨n, h⟩
/-- a list of values, each out of something -/
theorem law_walkZ {Hd : Type} {enc : TypeId × Value → Hd} {P : Program} {G : Nat → List PV} (hL : layB P = true) {W : World} {base g : Nat} {ts : Array TypeId} {args : Array Value} {ds : List (DataW Hd)} {p : List MemPlace} {us : List TypeId} {gs : List (DataW Hd)} (hG : GRel (HW W) G) (hts : ∀ t ∈ ts.toList, t < P.types.size) (hA : DataW.TrodAll enc P W 0 (fun _ => true) true ts.toList args.toList ds p)
    (hw : (DataW.weightsEach P (ts.toList ++ us) (ds ++ gs)).all (· ≤ reachBytes) = true) (hval : ∀ (j : Nat) t v, ts[j]? = some t → args[j]? = some v → Value.okWide P W .any base t v) (pure : ∀ al, TysZ P ts.toList al → Ok P G g al (.bool true)) :
    Calls P g args W fun e W' => e = .returned (.bool true) ∧ Below W.heap.size W W' := by
  obtain ⟨al, h1, h2⟩ := trod_allZ hL ts.toList args.toList ds p hts (fun j t v h3 h4 => hval j t v (by rw [← Array.getElem?_toList]; exact h3) (by rw [← Array.getElem?_toList]; exact h4)) hA hw
  refine ((pure al h1).2 W (HW W) args (fun b o v h => h) hG ⟨by have := h2.1; simpa using this, fun i v c hv hc => h2.2 i v c (by rw [Array.getElem?_toList]; exact hv) hc⟩).mono fun e W' he => ?_
  obtain ⟨v, H', rfl, hb, _, _, _, hr⟩ := he
  cases hr
  exact ⟨rfl, hb⟩


end Go.Proofs.YtfhojpnofmlkdaaDoor.Pv
