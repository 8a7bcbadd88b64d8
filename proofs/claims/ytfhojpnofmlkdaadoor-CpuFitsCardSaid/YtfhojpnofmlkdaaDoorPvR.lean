/- What comes in as an argument reads as a plain value of its type. -/
import Derived.Test.YtfhojpnofmlkdaaDoorPvL
import Derived.DataReads
import GoSem.ClaimChange
namespace Go.Proofs.YtfhojpnofmlkdaaDoor.Pv
open Go.RowKit
set_option linter.unusedSimpArgs false
set_option linter.unusedVariables false
set_option maxHeartbeats 1000000

/-- the fields of a struct lie one behind the other -/
def consec (P : Program) : List Field → Nat → Nat → Bool
  | [], o, n => o == n
  | f :: fs, o, n => f.offset == o && consec P fs (o + P.cellsOf f.type) n
def layAt (P : Program) (t : TypeId) : Bool :=
  match P.underlying t with
  | some (.struct fs) => consec P fs.toList 0 (P.cellsOf t) && fs.all fun f => decide (f.type < P.types.size)
  | some (.array m e) => P.cellsOf t == m * P.cellsOf e && decide (e < P.types.size)
  | some (.slice e) => decide (e < P.types.size)
  | _ => true
def layB (P : Program) : Bool := (List.range P.types.size).all (layAt P)
theorem layB_at {P : Program} (h : layB P = true) {t : TypeId} (ht : t < P.types.size) : layAt P t = true := List.all_eq_true.1 h t (List.mem_range.2 ht)

/-- the cells of a value of type t -/
def Ty (P : Program) : Nat → TypeId → List PV → Prop
  | 0, _, _ => False
  | n + 1, t, pcs =>
    match P.underlying t with
    | some .bool => ∃ b, pcs = [.bool b]
    | some (.int k) => ∃ i : Int, pcs = [.int k i] ∧ k.min ≤ i ∧ i ≤ k.max
    | some .string => ∃ s : ByteArray, pcs = [.str s] ∧ s.size ≤ maxLen
    | some (.slice e) => (P.cellsOf e = 0 ∧ pcs = [.any]) ∨ ∃ es : List PV, pcs = [.lst (P.cellsOf e) es] ∧ es.length ≤ maxLen ∧ ∀ x ∈ es, ∃ xs, x = elemOf (P.cellsOf e) xs ∧ Ty P n e xs
    | some (.struct fs) => ∃ parts : List (List PV), pcs = parts.flatten ∧ parts.length = fs.size ∧ ∀ (i : Nat) f p, fs[i]? = some f → parts[i]? = some p → Ty P n f.type p
    | some (.array m e) => ∃ parts : List (List PV), pcs = parts.flatten ∧ parts.length = m ∧ ∀ p ∈ parts, Ty P n e p
    | _ => pcs = [.any]
def RelL (H : GH) (ρ : RM) (vs : List Value) (cs : List PV) : Prop := vs.length = cs.length ∧ ∀ (i : Nat) v c, vs[i]? = some v → cs[i]? = some c → Rel H ρ v c
theorem RelL.append {H : GH} {ρ : RM} {a b : List Value} {c d : List PV} (h : RelL H ρ a c) (k : RelL H ρ b d) : RelL H ρ (a ++ b) (c ++ d) := by
  refine ⟨by simp [h.1, k.1], fun i v x hv hx => ?_⟩
  by_cases hi : i < a.length
  · rw [List.getElem?_append_left hi] at hv
    rw [List.getElem?_append_left (by rw [← h.1]; exact hi)] at hx
    exact h.2 i v x hv hx
  · rw [List.getElem?_append_right (by omega)] at hv
    rw [List.getElem?_append_right (by rw [← h.1]; omega), ← h.1] at hx
    exact k.2 _ v x hv hx
theorem RelL.nil {H : GH} {ρ : RM} : RelL H ρ [] [] := ⟨rfl, fun i v c hv => by simp at hv⟩
theorem RelL.one {H : GH} {ρ : RM} {v : Value} {c : PV} (h : Rel H ρ v c) : RelL H ρ [v] [c] := ⟨rfl, fun i u x hu hx => by
  cases i with
  | zero => simp at hu hx; subst hu; subst hx; exact h
  | succ i => simp at hu⟩
def HW (w : World) : GH := fun b o => w.cell? ⟨b, o, none⟩
theorem consec_parts {P : Program} {H : GH} {ρ : RM} {cs : List Value} {T : Field → List PV → Prop} : ∀ (fs : List Field) (o : Nat), consec P fs o cs.length = true → (∀ (i : Nat) f, fs[i]? = some f → ∃ p, T f p ∧ RelL H ρ ((cs.drop f.offset).take (P.cellsOf f.type)) p) →
    ∃ parts : List (List PV), parts.length = fs.length ∧ (∀ (i : Nat) f p, fs[i]? = some f → parts[i]? = some p → T f p) ∧ RelL H ρ (cs.drop o) parts.flatten := by
  intro fs
  induction fs with
  | nil =>
    intro o h _
    simp only [consec, beq_iff_eq] at h
    exact ⟨[], rfl, fun i f p hf => by simp at hf, by rw [h, List.drop_length]; exact .nil⟩
  | cons f fs ih =>
    intro o h hf
    simp only [consec, Bool.and_eq_true, beq_iff_eq] at h
    obtain ⟨p, h1, h2⟩ := hf 0 f rfl
    obtain ⟨parts, h3, h4, h5⟩ := ih _ h.2 (fun i g hg => hf (i + 1) g hg)
    refine ⟨p :: parts, by simp [h3], fun i g q hg hq => ?_, ?_⟩
    · cases i with
      | zero => simp at hg hq; subst hg; subst hq; exact h1
      | succ i => exact h4 i g q hg hq
    · rw [h.1] at h2
      have := h2.append h5
      rw [← List.drop_drop, List.take_append_drop] at this
      simpa using this
theorem list_of {P : Program} {H : GH} {ρ : RM} {cs : List Value} {sz : Nat} {T : List PV → Prop} : ∀ (m o : Nat), cs.length = o + m * sz → (∀ i, i < m → ∃ p, T p ∧ RelL H ρ ((cs.drop (o + i * sz)).take sz) p) →
    ∃ parts : List (List PV), parts.length = m ∧ (∀ p ∈ parts, T p) ∧ RelL H ρ (cs.drop o) parts.flatten := by
  intro m
  induction m with
  | zero => intro o h _; exact ⟨[], rfl, fun p hp => by simp at hp, by rw [List.drop_of_length_le (by simp at h; omega)]; exact .nil⟩
  | succ m ih =>
    intro o h hp
    obtain ⟨p, h1, h2⟩ := hp 0 (by omega)
    obtain ⟨parts, h3, h4, h5⟩ := ih (o + sz) (by rw [h, Nat.add_mul]; omega) (fun i hi => by
      obtain ⟨q, q1, q2⟩ := hp (i + 1) (by omega)
      refine ⟨q, q1, ?_⟩
      rw [show o + sz + i * sz = o + (i + 1) * sz by rw [Nat.add_mul]; omega]
      exact q2)
    refine ⟨p :: parts, by simp [h3], fun q hq => ?_, ?_⟩
    · rcases List.mem_cons.1 hq with rfl | hq
      · exact h1
      · exact h4 q hq
    · rw [Nat.zero_mul, Nat.add_zero] at h2
      have := h2.append h5
      rw [← List.drop_drop, List.take_append_drop] at this
      simpa using this
theorem cells_get {w : World} {base : Nat} {a : Addr} {n : Nat} {cs : List Value} (h : w.cells? base a n = some cs) : cs.length = n ∧ ∀ i, i < n → w.cell? (a.add i) = cs[i]? := by
  unfold World.cells? at h
  split at h
  · have hl := mapM_some_length h
    refine ⟨by simpa using hl, fun i hi => mapM_some_get h i i (by simp [hi])⟩
  · cases h
theorem cell_spot {w : World} {a : Addr} {v : Value} (h : w.cell? a = some v) : a.spot = none := by
  unfold World.cell? at h
  split at h
  · cases hs : a.spot with
    | none => rfl
    | some s => rw [hs] at h; simp at h
  · cases h
theorem trod_pv {Hd : Type} {enc : TypeId × Value → Hd} {P : Program} {w : World} {base : Nat} {spare : Nat → Bool} {held : Bool} (hL : layB P = true) : ∀ (fuel : Nat) (t : TypeId) (cs : List Value) (x : DataW Hd × List MemPlace), t < P.types.size → DataW.trod enc P w base spare held fuel t cs = some x → ∃ pcs, Ty P fuel t pcs ∧ RelL (HW w) RM.nil cs pcs := by
  intro fuel
  induction fuel with
  | zero => intro t cs x ht h; simp [DataW.trod] at h
  | succ fuel ih =>
    intro t csx x htl h
    have hat := layB_at hL htl
    unfold layAt at hat
    have any1 : ∀ v, (match P.underlying t with | some .bool | some (.int _) | some .string | some (.slice _) | some (.struct _) | some (.array _ _) => False | _ => True) → csx = [v] → ∃ pcs, Ty P (fuel + 1) t pcs ∧ RelL (HW w) RM.nil csx pcs := fun v hv e => by
      refine ⟨[.any], ?_, by rw [e]; exact .one (.any v)⟩
      unfold Ty
      split <;> first | rfl | (rename_i e; rw [e] at hv; exact hv.elim)
    unfold DataW.trod at h
    split at h
    · rename_i b hT; exact ⟨[.bool b], by unfold Ty; rw [hT]; exact ⟨b, rfl⟩, .one (.bool b)⟩
    · rename_i k k' n hT
      split at h
      · rename_i hc
        obtain ⟨rfl, hwf⟩ := hc
        have hwf' : k'.min ≤ n ∧ n ≤ k'.max := by simpa [Lit.wf] using hwf
        exact ⟨[.int k' n], by unfold Ty; rw [hT]; exact ⟨n, rfl, hwf'⟩, .one (.int k' n)⟩
      · cases h
    · rename_i hT; exact any1 _ (by rw [hT]; trivial) rfl
    · rename_i s hT
      split at h
      · rename_i hs; exact ⟨[.str s], by unfold Ty; rw [hT]; exact ⟨s, rfl, hs⟩, .one (.str s)⟩
      · cases h
    · rename_i hT; exact any1 _ (by rw [hT]; trivial) rfl
    · rename_i hT; exact any1 _ (by rw [hT]; trivial) rfl
    · rename_i e hT
      refine ⟨[.lst (P.cellsOf e) []], by unfold Ty; rw [hT]; exact .inr ⟨[], rfl, by simp, fun x hx => by simp at hx⟩, .one ?_⟩
      exact .lst none 0 _ [] 0 0 (fun _ => undef) (fun _ => []) (Nat.le_refl _) (fun h => absurd rfl h) (fun j hj => by simp at hj) (fun i e h => by simp at h) (fun i j c h => by simp at h)
    · rename_i e a len cap hT
      rw [hT] at hat
      have hel0 : e < P.types.size := of_decide_eq_true hat
      split at h
      · rename_i hc
        obtain ⟨_, c2, c3⟩ := hc
        by_cases hz : P.cellsOf e = 0
        · exact ⟨[.any], by unfold Ty; rw [hT]; exact .inl ⟨hz, rfl⟩, .one (.any _)⟩
        · obtain ⟨elems, h1, _⟩ := Option.bind_eq_some_iff.1 h
          have hel : ∀ i, i < len → ∃ ecs y, w.cells? base (a.add (i * P.cellsOf e)) (P.cellsOf e) = some ecs ∧ DataW.trod enc P w base spare held fuel e ecs = some y := fun i hi => by
            have hlen := mapM_some_length h1
            have := mapM_some_get h1 i i (by simp [hi])
            have hi' : i < elems.length := by rw [hlen]; simpa using hi
            rw [List.getElem?_eq_getElem hi'] at this
            obtain ⟨ecs, q1, q2⟩ := Option.bind_eq_some_iff.1 this
            exact ⟨ecs, _, q1, q2⟩
          have hp : ∀ i, ∃ p, i < len → Ty P fuel e p ∧ ∃ ecs, w.cells? base (a.add (i * P.cellsOf e)) (P.cellsOf e) = some ecs ∧ RelL (HW w) RM.nil ecs p := fun i => by
            by_cases hi : i < len
            · obtain ⟨ecs, y, q1, q2⟩ := hel i hi
              obtain ⟨p, r1, r2⟩ := ih e ecs y hel0 q2
              exact ⟨p, fun _ => ⟨r1, ecs, q1, r2⟩⟩
            · exact ⟨[], fun h => absurd h hi⟩
          obtain ⟨f, hf⟩ := Classical.axiomOfChoice hp
          have cellAt : ∀ i, i < len → ∀ q, q < P.cellsOf e → w.cell? ⟨a.block, a.off + (i * P.cellsOf e + q), none⟩ = w.cell? ((a.add (i * P.cellsOf e)).add q) := fun i hi q hq => by
            obtain ⟨_, ecs, q1, _⟩ := hf i hi
            obtain ⟨l1, l2⟩ := cells_get q1
            have hs : (a.add (i * P.cellsOf e)).spot = none := by
              have := l2 0 (by omega)
              rw [List.getElem?_eq_getElem (by omega)] at this
              have := cell_spot this
              simpa [Addr.add] using this
            obtain ⟨b, o, sp⟩ := a
            congr 1
            unfold Addr.add at hs ⊢
            by_cases h0 : i * P.cellsOf e = 0
            · rw [if_pos h0] at hs ⊢
              simp only at hs
              subst hs
              rw [h0]
              by_cases hq0 : q = 0
              · subst hq0; simp
              · rw [if_neg hq0]; simp
            · rw [if_neg h0]
              by_cases hq0 : q = 0
              · subst hq0; simp
              · rw [if_neg hq0]; simp [Nat.add_assoc]
          refine ⟨[.lst (P.cellsOf e) ((List.range len).map fun i => elemOf (P.cellsOf e) (f i))], ?_, .one ?_⟩
          · unfold Ty; rw [hT]
            refine .inr ⟨_, rfl, by simp; omega, fun x hx => ?_⟩
            obtain ⟨i, hi, rfl⟩ := List.mem_map.1 hx
            exact ⟨f i, rfl, (hf i (by simpa using hi)).1⟩
          · have e0 := Rel.lst (H := HW w) (ρ := RM.nil) (some a) cap (P.cellsOf e) ((List.range len).map fun i => elemOf (P.cellsOf e) (f i)) a.block a.off (fun j => (HW w a.block (a.off + j)).getD undef) f (by simpa using c2) (fun hne => by
              have hl0 : 0 < len := by
                rcases Nat.eq_zero_or_pos len with e | e
                · rw [e] at hne; simp at hne
                · exact e
              obtain ⟨_, ecs, q1, _⟩ := hf 0 hl0
              obtain ⟨l1, l2⟩ := cells_get q1
              have := l2 0 (by omega)
              rw [List.getElem?_eq_getElem (by omega)] at this
              have := cell_spot this
              have hs : a.spot = none := by simpa [Addr.add] using this
              obtain ⟨b, o, sp⟩ := a
              simp only at hs; subst hs; rfl) (fun j hj => by
              simp only [List.length_map, List.length_range] at hj
              have hi : j / P.cellsOf e < len := Nat.div_lt_of_lt_mul (by rw [Nat.mul_comm]; exact hj)
              have hq : j % P.cellsOf e < P.cellsOf e := Nat.mod_lt _ (by omega)
              have hj2 : j / P.cellsOf e * P.cellsOf e + j % P.cellsOf e = j := by rw [Nat.mul_comm]; exact Nat.div_add_mod _ _
              obtain ⟨_, ecs, q1, _⟩ := hf _ hi
              obtain ⟨l1, l2⟩ := cells_get q1
              have h3 := l2 _ hq
              rw [← cellAt _ hi _ hq, hj2, List.getElem?_eq_getElem (by omega)] at h3
              show HW w a.block (a.off + j) = _
              unfold HW
              rw [h3]; rfl) (fun i x hx => by
              rw [List.getElem?_map] at hx
              obtain ⟨k, hk, rfl⟩ := Option.map_eq_some_iff.1 hx
              obtain ⟨hk1, hk2⟩ := List.getElem?_eq_some_iff.1 hk
              simp at hk1 hk2; subst hk2
              obtain ⟨_, ecs, q1, q2⟩ := hf i hk1
              exact ⟨elemOf_cells _ _, by rw [← q2.1]; exact (cells_get q1).1⟩) (fun i j c hi hc => by
              simp only [List.length_map, List.length_range] at hi
              obtain ⟨_, ecs, q1, q2⟩ := hf i hi
              obtain ⟨l1, l2⟩ := cells_get q1
              have hj : j < P.cellsOf e := by rw [← l1, q2.1]; exact (List.getElem?_eq_some_iff.1 hc).1
              have h3 := l2 j hj
              rw [← cellAt i hi j hj, List.getElem?_eq_getElem (by omega)] at h3
              show Rel (HW w) RM.nil ((HW w a.block (a.off + (i * P.cellsOf e + j))).getD undef) c
              unfold HW
              rw [h3]
              exact q2.2 j _ c (List.getElem?_eq_getElem (by omega)) hc)
            simpa using e0
      · cases h
    · rename_i csx xo cs' fs hT
      rw [hT] at hat
      simp only [Bool.and_eq_true, Array.all_eq_true_iff_forall_mem, decide_eq_true_eq] at hat
      split at h
      · rename_i hlen
        obtain ⟨xs, h1, _⟩ := Option.map_eq_some_iff.1 h
        obtain ⟨parts, p1, p2, p3⟩ := consec_parts (H := HW w) (ρ := RM.nil) (cs := csx) (T := fun f p => Ty P fuel f.type p) fs.toList 0 (by rw [hlen]; exact hat.1) (fun i f hf => by
          have hl := mapM_some_length h1
          have h2 := mapM_some_get h1 i f hf
          have hi : i < xs.length := by rw [hl]; exact (List.getElem?_eq_some_iff.1 hf).1
          rw [List.getElem?_eq_getElem hi] at h2
          obtain ⟨p, r1, r2⟩ := ih _ _ _ (hat.2 f (Array.mem_toList_iff.1 (List.mem_of_getElem? hf))) h2
          exact ⟨p, r1, r2⟩)
        refine ⟨parts.flatten, ?_, by simpa using p3⟩
        unfold Ty; rw [hT]
        exact ⟨parts, rfl, by simpa using p1, fun i f p hf hp => p2 i f p (by rw [Array.getElem?_toList]; exact hf) hp⟩
      · cases h
    · rename_i csx xo cs' m e hT
      rw [hT] at hat
      simp only [Bool.and_eq_true, beq_iff_eq, decide_eq_true_eq] at hat
      split at h
      · rename_i hlen
        obtain ⟨xs, h1, _⟩ := Option.map_eq_some_iff.1 h
        obtain ⟨parts, p1, p2, p3⟩ := list_of (P := P) (H := HW w) (ρ := RM.nil) (cs := csx) (sz := P.cellsOf e) (T := fun p => Ty P fuel e p) m 0 (by rw [hlen, hat.1]; omega) (fun i hi => by
          have hl := mapM_some_length h1
          have h2 := mapM_some_get h1 i i (by simp [hi])
          have hi' : i < xs.length := by rw [hl]; simpa using hi
          rw [List.getElem?_eq_getElem hi'] at h2
          obtain ⟨p, r1, r2⟩ := ih _ _ _ hat.2 h2
          exact ⟨p, r1, by rw [Nat.zero_add]; exact r2⟩)
        refine ⟨parts.flatten, ?_, by simpa using p3⟩
        unfold Ty; rw [hT]
        exact ⟨parts, rfl, p1, p2⟩
      · cases h
    all_goals first | (cases h; done) | (rename_i hT; exact any1 _ (by rw [hT]; trivial) rfl)
end Go.Proofs.YtfhojpnofmlkdaaDoor.Pv
