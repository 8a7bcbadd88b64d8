/- Loops that end early or run through. -/
import Derived.Test.YtmkpdbofhpffaaaPvZ
namespace Go.Proofs.Ytmkpdbofhpffaaa.Pv
open Go.RowKit
set_option linter.unusedSimpArgs false
set_option linter.unusedVariables false
/-- a loop that looks for something -/
theorem loop_first {P : Program} {G : Nat → List PV} {n0 : Nat} {b : Code} {S : Nat → PS} {m : Nat} {c : Nat → Bool} {e1 : Nat → PE × PS} {e2 : PE × PS}
    (hstep : ∀ i, i < m → c i = true → ∀ e s', LoopOk P G n0 b (S (i + 1)) e s' → LoopOk P G n0 b (S i) e s')
    (hstop : ∀ i, i < m → c i = false → LoopOk P G n0 b (S i) (e1 i).1 (e1 i).2)
    (hend : LoopOk P G n0 b (S m) e2.1 e2.2) :
    ((∀ j, j < m → c j = true) → LoopOk P G n0 b (S 0) e2.1 e2.2) ∧ (∀ j, j < m → c j = false → (∀ k, k < j → c k = true) → LoopOk P G n0 b (S 0) (e1 j).1 (e1 j).2) := by
  have key : ∀ j, j ≤ m → (∀ k, k < j → c k = true) → ∀ e s', LoopOk P G n0 b (S j) e s' → LoopOk P G n0 b (S 0) e s' := by
    intro j
    induction j with
    | zero => intro _ _ e s' h; exact h
    | succ j ih => intro hj hk e s' h; exact ih (by omega) (fun k h => hk k (by omega)) e s' (hstep j (by omega) (hk j (by omega)) e s' h)
  exact ⟨fun h => key m (Nat.le_refl _) h _ _ hend, fun j hj hc hk => key j (by omega) hk _ _ (hstop j hj hc)⟩
theorem first_false {c : Nat → Bool} : ∀ {m : Nat}, ¬ (∀ j, j < m → c j = true) → ∃ j, j < m ∧ c j = false ∧ ∀ k, k < j → c k = true := by
  intro m
  induction m with
  | zero => intro h; exact absurd (fun j hj => absurd hj (Nat.not_lt_zero _)) h
  | succ m ih =>
    intro h
    by_cases h' : ∀ j, j < m → c j = true
    · refine ⟨m, Nat.lt_succ_self _, ?_, h'⟩
      cases hc : c m with
      | false => rfl
      | true =>
        refine absurd (fun j hj => ?_) h
        rcases Nat.lt_or_ge j m with hl | hl
        · exact h' j hl
        · obtain rfl : j = m := by omega
          exact hc
    · obtain ⟨j, h1, h2, h3⟩ := ih h'
      exact ⟨j, by omega, h2, h3⟩
theorem px_map {α : Type} {P : Program} {T E : TypeId} {sz : Nat} {pv : α → PV} {l : List α} {i : Nat} {d : α} {k : IntKind} {cs : List PV} {hp : List Box} (hT : P.underlying T = some (.slice E)) (hE : szT P E = some sz) (h : i < l.length) (hc : (pv (l.getD i d)).cells? = some cs) :
    (pidx P T (.lst sz (l.map pv)) (.int k (i : Int))).map (fun v => (v, hp)) = some (.cptr cs, hp) := by
  have h1 : l[i]? = some (l.getD i d) := by rw [List.getD_eq_getElem?_getD, List.getElem?_eq_getElem h]; rfl
  rw [pidx_lst hT hE h1 hc]
  rfl
theorem fin_b {bs : List Box} {a b : Bool} (h : a = b) : Fz bs (.bool a) (.bool b) := by subst h; exact ⟨_, _, rfl, Sub.refl _⟩
theorem fin_i {bs : List Box} {k : IntKind} {a b : Int} (h : a = b) : Fz bs (.int k a) (.int k b) := by subst h; exact ⟨_, _, rfl, Sub.refl _⟩
theorem getD_all {α : Type} {p : α → Prop} {l : List α} {i : Nat} {d : α} (h : ∀ x ∈ l, p x) (hd : p d) : p (l.getD i d) := by
  rw [List.getD_eq_getElem?_getD]
  cases hx : l[i]? with
  | none => exact hd
  | some x => exact h x (List.mem_of_getElem? hx)
theorem ext_getD {α : Type} {d : α} {a b : List α} (h : a.length = b.length) (hj : ∀ j, j < a.length → a.getD j d = b.getD j d) : a = b := by
  refine List.ext_getElem h fun i h1 h2 => ?_
  have := hj i h1
  rw [List.getD_eq_getElem?_getD, List.getD_eq_getElem?_getD, List.getElem?_eq_getElem h1, List.getElem?_eq_getElem h2] at this
  exact this
end Go.Proofs.Ytmkpdbofhpffaaa.Pv
