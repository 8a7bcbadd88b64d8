/- A law: **where the plain reader says true for all arguments of its types, the call says true**. -/
import Derived.Test.YtfhojpnofmlkdaaDoorPvR
import Derived.Carry
import Derived.ChangeOld
import Derived.OpenShut
namespace Go.Proofs.YtfhojpnofmlkdaaDoor.Pv
open Go.RowKit Go.ChangeShapes
set_option linter.unusedSimpArgs false
set_option linter.unusedVariables false
set_option maxHeartbeats 1000000

/-- a value out of its cells -/
def valOf (P : Program) (t : TypeId) (pcs : List PV) : PV := match P.underlying t with | some (.struct _) | some (.array _ _) => .agg pcs | _ => pcs.headD .any
inductive Tys (P : Program) : List TypeId → List PV → Prop
  | nil : Tys P [] []
  | cons (t : TypeId) (ts : List TypeId) (fuel : Nat) (pcs : List PV) (as : List PV) (h : Ty P fuel t pcs) (hs : Tys P ts as) : Tys P (t :: ts) (valOf P t pcs :: as)
theorem trod_all {Hd : Type} {enc : TypeId × Value → Hd} {P : Program} {W : World} {base : Nat} (hL : layB P = true) : ∀ (ts : List TypeId) (vs : List Value) (ds : List (DataW Hd)) (p : List MemPlace), (∀ t ∈ ts, t < P.types.size) → (∀ (j : Nat) t v, ts[j]? = some t → vs[j]? = some v → Value.okWide P W .any base t v) → DataW.TrodAll enc P W 0 (fun _ => true) true ts vs ds p → ∃ as, Tys P ts as ∧ RelL (HW W) RM.nil vs as := by
  intro ts
  induction ts with
  | nil =>
    intro vs ds p _ _ h
    cases vs <;> cases ds <;> simp [DataW.TrodAll] at h
    exact ⟨[], .nil, .nil⟩
  | cons t ts ih =>
    intro vs ds p ht hv h
    obtain ⟨v, vs', d, ds', p1, q, rfl, rfl, rfl, h0, h1⟩ := trodAll_cons h
    obtain ⟨as, h2, h3⟩ := ih vs' ds' q (fun t h => ht t (List.mem_cons_of_mem _ h)) (fun j t v h4 h5 => hv (j + 1) t v h4 h5) h1
    obtain ⟨fuel, hf⟩ := h0
    obtain ⟨pcs, h4, h5⟩ := trod_pv hL fuel t v.cells.toList _ (ht t (List.mem_cons_self ..)) hf
    refine ⟨valOf P t pcs :: as, .cons t ts fuel pcs as h4 h2, ?_⟩
    have hok := hv 0 t v rfl rfl
    have hv1 : Rel (HW W) RM.nil v (valOf P t pcs) := by
      have flat : (∀ cs, v ≠ .agg cs) → Rel (HW W) RM.nil v (pcs.headD .any) := fun hne => by
        have : v.cells.toList = [v] := by cases v <;> first | rfl | exact absurd rfl (hne _)
        rw [this] at h5
        match pcs, h5.1 with
        | [c], _ => exact h5.2 0 v c rfl rfl
      unfold valOf
      unfold Value.okWide at hok
      split
      · rename_i fs hT
        rw [hT] at hok
        obtain ⟨cs, rfl, _⟩ := hok
        exact .agg _ _ (by have := h5.1; simpa [Value.cells] using this) fun i v c hv hc => h5.2 i v c (by simpa [Value.cells] using hv) hc
      · rename_i m e hT
        rw [hT] at hok
        obtain ⟨cs, rfl, _⟩ := hok
        exact .agg _ _ (by have := h5.1; simpa [Value.cells] using this) fun i v c hv hc => h5.2 i v c (by simpa [Value.cells] using hv) hc
      · rename_i n1 n2
        refine flat fun cs e => ?_
        subst e
        split at hok
        · rename_i hT; exact n1 _ hT
        · rename_i hT; exact n2 _ _ hT
        · unfold Cell.okWide Cell.ok at hok
          cases hd : P.underlying t with
          | none => rw [hd] at hok; exact hok
          | some d => rw [hd] at hok; cases d <;> exact hok
    have := (RelL.one hv1).append h3
    exact this
theorem trod_below {Hd : Type} {enc : TypeId × Value → Hd} {P : Program} {W W' : World} (hl : laidOutB P = true) (hb : Below W.heap.size W W') : ∀ (ts : List TypeId) (vs : List Value) (ds : List (DataW Hd)) (p : List MemPlace), (∀ t ∈ ts, P.readableRec t = true ∧ t < P.types.size) → DataW.TrodAll enc P W 0 (fun _ => true) true ts vs ds p → DataW.TrodAll enc P W' 0 (fun b => decide (b < W.heap.size)) true ts vs ds p := by
  intro ts
  induction ts with
  | nil => intro vs ds p _ h; cases vs <;> cases ds <;> simp [DataW.TrodAll] at h ⊢; exact h
  | cons t ts ih =>
    intro vs ds p ht h
    obtain ⟨v, vs', d, ds', p1, q, rfl, rfl, rfl, h0, h1⟩ := trodAll_cons h
    have lt0 : ∀ x ∈ p1, x.block < W.heap.size := by obtain ⟨m, hm⟩ := h0; exact DataW.trod_lt m _ _ _ hm
    obtain ⟨h2, h3⟩ := ht t (List.mem_cons_self ..)
    exact trodAll_cons_mk (Below.trod hl h2 h3 h0 hb lt0) (ih vs' ds' q (fun t h => ht t (List.mem_cons_of_mem _ h)) h1)
/-- **the walk of any law** -/
theorem law_walk {Hd : Type} {enc : TypeId × Value → Hd} {P : Program} {X : Cfg} (hE : EnvOk P X) (hL : layB P = true) {W : World} {base g : Nat} {ts : Array TypeId} {args : Array Value} {ds : List (DataW Hd)} {p : List MemPlace} (hG : GRel (HW W) X.G) (hts : ∀ t ∈ ts.toList, t < P.types.size) (hA : DataW.TrodAll enc P W 0 (fun _ => true) true ts.toList args.toList ds p)
    (hval : ∀ (j : Nat) t v, ts[j]? = some t → args[j]? = some v → Value.okWide P W .any base t v) (pure : ∀ as, Tys P ts.toList as → ∃ n, iso P X n g as = some (.bool true)) :
    Calls P g args W fun e W' => e = .returned (.bool true) ∧ Below W.heap.size W W' := by
  obtain ⟨as, h1, h2⟩ := trod_all hL ts.toList args.toList ds p hts (fun j t v h3 h4 => hval j t v (by rw [← Array.getElem?_toList]; exact h3) (by rw [← Array.getElem?_toList]; exact h4)) hA
  obtain ⟨n, hn⟩ := pure as h1
  refine (iso_sound hE hn W (HW W) args (fun b o v h => h) hG ⟨by have := h2.1; simpa using this, fun i v c hv hc => h2.2 i v c (by rw [Array.getElem?_toList]; exact hv) hc⟩).mono fun e W' he => ?_
  obtain ⟨v, H', rfl, hb, _, _, _, hr⟩ := he
  cases hr
  exact ⟨rfl, hb⟩

theorem args1 {H : GH} {ρ : RM} {vs : Array Value} {a : PV} (h : Args H ρ vs [a]) : ∃ v, vs = #[v] ∧ Rel H ρ v a := by
  obtain ⟨l⟩ := vs
  match l, h with
  | [v], h => exact ⟨v, rfl, h.rel 0 v a rfl rfl⟩
  | [], h => exact absurd h.len (by simp)
  | _ :: _ :: _, h => exact absurd h.len (by simp)
theorem args2 {H : GH} {ρ : RM} {vs : Array Value} {a b : PV} (h : Args H ρ vs [a, b]) : ∃ u v, vs = #[u, v] ∧ Rel H ρ u a ∧ Rel H ρ v b := by
  obtain ⟨l⟩ := vs
  match l, h with
  | [u, v], h => exact ⟨u, v, rfl, h.rel 0 u a rfl rfl, h.rel 1 v b rfl rfl⟩
  | [], h => exact absurd h.len (by simp)
  | [_], h => exact absurd h.len (by simp)
  | _ :: _ :: _ :: _, h => exact absurd h.len (by simp)
theorem ty_int {P : Program} {n : Nat} {t : TypeId} {k : IntKind} {p : List PV} (ht : P.underlying t = some (.int k)) (h : Ty P n t p) : ∃ i : Int, p = [.int k i] ∧ k.min ≤ i ∧ i ≤ k.max := by
  cases n with
  | zero => exact h.elim
  | succ n => unfold Ty at h; rw [ht] at h; exact h
theorem ty_bool {P : Program} {n : Nat} {t : TypeId} {p : List PV} (ht : P.underlying t = some .bool) (h : Ty P n t p) : ∃ b, p = [.bool b] := by
  cases n with
  | zero => exact h.elim
  | succ n => unfold Ty at h; rw [ht] at h; exact h
theorem ty_str {P : Program} {n : Nat} {t : TypeId} {p : List PV} (ht : P.underlying t = some .string) (h : Ty P n t p) : ∃ s : ByteArray, p = [.str s] ∧ s.size ≤ maxLen := by
  cases n with
  | zero => exact h.elim
  | succ n => unfold Ty at h; rw [ht] at h; exact h
theorem ty_struct {P : Program} {n : Nat} {t : TypeId} {fs : Array Field} {p : List PV} (ht : P.underlying t = some (.struct fs)) (h : Ty P n t p) : ∃ (m : Nat) (parts : List (List PV)), p = parts.flatten ∧ parts.length = fs.size ∧ ∀ (i : Nat) f q, fs[i]? = some f → parts[i]? = some q → Ty P m f.type q := by
  cases n with
  | zero => exact h.elim
  | succ n => unfold Ty at h; rw [ht] at h; exact ⟨n, h⟩
theorem ty_slice {P : Program} {n : Nat} {t e : TypeId} {p : List PV} (ht : P.underlying t = some (.slice e)) (hz : P.cellsOf e ≠ 0) (h : Ty P n t p) : ∃ m, ∃ es : List PV, p = [.lst (P.cellsOf e) es] ∧ es.length ≤ maxLen ∧ ∀ x ∈ es, ∃ xs, x = elemOf (P.cellsOf e) xs ∧ Ty P m e xs := by
  cases n with
  | zero => exact h.elim
  | succ n =>
    unfold Ty at h; rw [ht] at h
    rcases h with ⟨h, _⟩ | h
    · exact absurd h hz
    · exact ⟨n, h⟩
/-- a list of values, each out of something -/
theorem list_map {α : Type} {p : PV → Prop} {f : α → PV} (h : ∀ x, p x → ∃ a, x = f a) : ∀ es : List PV, (∀ x ∈ es, p x) → ∃ l : List α, es = l.map f := by
  intro es
  induction es with
  | nil => intro _; exact ⟨[], rfl⟩
  | cons x es ih =>
    intro hp
    obtain ⟨a, ha⟩ := h x (hp x (List.mem_cons_self ..))
    obtain ⟨l, hl⟩ := ih fun y hy => hp y (List.mem_cons_of_mem _ hy)
    exact ⟨a :: l, by rw [ha, hl]; rfl⟩
end Go.Proofs.YtfhojpnofmlkdaaDoor.Pv
