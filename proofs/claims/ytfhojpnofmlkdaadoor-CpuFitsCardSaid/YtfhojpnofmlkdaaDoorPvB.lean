/- Loops that end early or run through. -/
import Derived.Test.YtfhojpnofmlkdaaDoorPvZ
namespace Go.Proofs.YtfhojpnofmlkdaaDoor.Pv
open Go.RowKit
set_option linter.unusedSimpArgs false
set_option linter.unusedVariables false
/-- a loop that looks for something -/
theorem loop_first {P : Program} {G : Nat → List PV} {n0 : Nat} {b : Code} {S : Nat → PS} {m : Nat} {c : Nat → Bool} {e1 : Nat → PE × PS} {e2 : PE × PS}
    (hstep : ∀ i, i < m → c i = true → ∀ e s', LoopOk P G n0 b (S (i + 1)) e s' → LoopOk P G n0 b (S i) e s')
    (hstop : ∀ i, i < m → c i = false → LoopOk P G n0 b (S i) (e1 i).1 (e1 i).2)
    (hend : LoopOk P G n0 b (S m) e2.1 e2.2) :
    ((∀ j, j < m → c j = true) → LoopOk P G n0 b (S 0) e2.1 e2.2) ∧ (∀ j, j < m → c j = false → (∀ k, k < j → c k = true) → LoopOk P G n0 b (S 0) (e1 j).1 (e1 j).2) := by
  have key : ∀ j, j ≤ m → (∀ k, k < j → c k = true) → ∀ e s', LoopOk P G n0 b (S j) e s' → LoopOk P G n0 b (S 0) e s' := by
    intro j
    induction j with
    | zero => intro _ _ e s' h; exact h
    | succ j ih => intro hj hk e s' h; exact ih (by omega) (fun k h => hk k (by omega)) e s' (hstep j (by omega) (hk j (by omega)) e s' h)
  exact ⟨fun h => key m (Nat.le_refl _) h _ _ hend, fun j hj hc hk => key j (by omega) hk _ _ (hstop j hj hc)⟩
theorem first_false {c : Nat → Bool} : ∀ {m : Nat}, ¬ (∀ j, j < m → c j = true) → ∃ j, j < m ∧ c j = false ∧ ∀ k, k < j → c k = true := by
  intro m
  induction m with
  | zero => intro h; exact absurd (fun j hj => absurd hj (Nat.not_lt_zero _)) h
  | succ m ih =>
    intro h
    by_cases h' : ∀ j, j < m → c j = true
    · refine ⟨m, Nat.lt_succ_self _, ?_, h'⟩
      cases hc : c m with
      | false => rfl
      | true =>
        refine absurd (fun j hj => ?_) h
        rcases Nat.lt_or_ge j m with hl | hl
        · exact h' j hl
        · obtain rfl : j = m := by omega
          exact hc
    · obtain ⟨j, h1, h2, h3⟩ := ih h'
      exact ⟨j, by omega, h2, h3⟩
theorem px_map {α : Type} {P : Program} {T E : TypeId} {sz : Nat} {pv : α → PV} {l : List α} {i : Nat} {d : α} {k : IntKind} {cs : List PV} {hp : List Box} (hT : P.underlying T = some (.slice E)) (hE : szT P E = some sz) (h : i < l.length) (hc : (pv (l.getD i d)).cells? = some cs) :
    (pidx P T (.lst sz (l.map pv)) (.int k (i : Int))).map (fun v => (v, hp)) = some (.cptr cs, hp) := by
  have h1 : l[i]? = some (l.getD i d) := by rw [List.getD_eq_getElem?_getD, List.getElem?_eq_getElem h]; rfl
  rw [pidx_lst hT hE h1 hc]
  rfl
theorem fin_b {bs : List Box} {a b : Bool} (h : a = b) : Fz bs (.bool a) (.bool b) := by subst h; exact ⟨_, _, rfl, Sub.refl _⟩
theorem fin_i {bs : List Box} {k : IntKind} {a b : Int} (h : a = b) : Fz bs (.int k a) (.int k b) := by subst h; exact ⟨_, _, rfl, Sub.refl _⟩
theorem getD_all {α : Type} {p : α → Prop} {l : List α} {i : Nat} {d : α} (h : ∀ x ∈ l, p x) (hd : p d) : p (l.getD i d) := by
  rw [List.getD_eq_getElem?_getD]
  cases hx : l[i]? with
  | none => exact hd
  | some x => exact h x (List.mem_of_getElem? hx)
theorem ext_getD {α : Type} {d : α} {a b : List α} (h : a.length = b.length) (hj : ∀ j, j < a.length → a.getD j d = b.getD j d) : a = b := by
  refine List.ext_getElem h fun i h1 h2 => ?_
  have := hj i h1
  rw [List.getD_eq_getElem?_getD, List.getD_eq_getElem?_getD, List.getElem?_eq_getElem h1, List.getElem?_eq_getElem h2] at this
  exact this
end Go.Proofs.YtfhojpnofmlkdaaDoor.Pv
namespace Go.Proofs.YtfhojpnofmlkdaaDoor.Pv
open Go.RowKit
/-- facts of calls that are given boxes, as a table entry -/
theorem entS_ex {α : Type} (P : α → Prop) (f : α → (List PV × List Box) × (PV × List Box)) (hu : ∀ a b, (f a).1 = (f b).1 → (f a).2 = (f b).2) : ∃ h : List PV → List Box → Option (PV × List Box), (∀ a, P a → h (f a).1.1 (f a).1.2 = some (f a).2) ∧ ∀ l hp r, h l hp = some r → ∃ a, P a ∧ (l, hp) = (f a).1 ∧ r = (f a).2 := by
  classical
  refine ⟨fun l hp => if h : ∃ a, P a ∧ (l, hp) = (f a).1 then some (f (Classical.choose h)).2 else none, fun a ha => ?_, fun l hp r h => ?_⟩
  · have h' : ∃ b, P b ∧ ((f a).1.1, (f a).1.2) = (f b).1 := ⟨a, ha, rfl⟩
    show (if h : ∃ b, P b ∧ ((f a).1.1, (f a).1.2) = (f b).1 then some (f (Classical.choose h)).2 else none) = _
    rw [dif_pos h']
    exact congrArg some (hu _ _ (Classical.choose_spec h').2).symm
  · simp only at h
    split at h
    · rename_i h'
      cases h
      exact ⟨_, (Classical.choose_spec h').1, (Classical.choose_spec h').2, rfl⟩
    · cases h
theorem tkS {P : Program} {G : Nat → List PV} {g : Nat} {h : List PV → List Box → Option (PV × List Box)} {t : TabS} (h1 : ∀ as hp r, h as hp = some r → Sh P G g as hp r.1 r.2) (ht : TabSOk P G t) : TabSOk P G ((g, h) :: t) := fun p hp as hp' r e => by
  rcases List.mem_cons.1 hp with rfl | hp
  · exact h1 as hp' r e
  · exact ht p hp as hp' r e
theorem noBox_ren {m : Nat → Option Nat} : ∀ (d : Nat) (p : PV), noBoxB d p = true → ren m d p = p := by
  intro d; induction d with
  | zero => intro p h; simp [noBoxB] at h
  | succ d ih =>
    have L : ∀ cs : List PV, cs.all (noBoxB d) = true → cs.map (ren m d) = cs := fun cs h => by
      rw [List.all_eq_true] at h
      conv => rhs; rw [← List.map_id cs]
      exact List.map_congr_left fun c hc => ih c (h c hc)
    intro p h
    cases p <;> simp only [noBoxB, ren] at h ⊢ <;> first | rw [L _ h] | rw [ih _ h] | cases h
theorem noBox_in : ∀ (d : Nat) (p : PV), noBoxB d p = true → boxesIn d p = [] := by
  intro d; induction d with
  | zero => intro p h; simp [noBoxB] at h
  | succ d ih =>
    have L : ∀ cs : List PV, cs.all (noBoxB d) = true → cs.flatMap (boxesIn d) = [] := fun cs h => by
      rw [List.all_eq_true] at h
      rw [List.flatMap_eq_nil_iff]
      exact fun c hc => ih c (h c hc)
    intro p h
    cases p <;> simp only [noBoxB, boxesIn] at h ⊢ <;> first | exact L _ h | exact ih _ h | cases h
theorem renB_tik (m : Nat → Option Nat) (sz n : Nat) : renB m (tik sz n) = tik sz n := by
  unfold renB tik
  simp only [List.map_replicate]
  rfl
theorem tik_in (sz n : Nat) : (tik sz n).cells.flatMap (boxesIn deep) = [] := by
  unfold tik
  rw [List.flatMap_eq_nil_iff]
  intro c hc
  rw [List.eq_of_mem_replicate hc]; rfl
theorem reach_one {hp : List Box} {i : Nat} {bx : Box} (h : hp[i]? = some bx) (h' : bx.cells.flatMap (boxesIn deep) = []) (n : Nat) : reach hp (n + 1 + 1) [i] [] = [i] := by
  unfold reach
  simp only [List.any_nil, h, h', List.append_nil, List.nil_append]
  unfold reach
  rfl
/-- a call that is given a list that grows, and makes it longer -/
theorem pcallv_own {C : Orc} {g i sz n n' : Nat} {es es' more : List PV} {hp : List Box} (hs : C.sh g = true) (hm : more.all (noBoxB deep) = true) (hi : hp[i]? = some (tik sz n)) (hc : C.shr g (.own 0 sz es :: more) [tik sz n] = some (.own 1 sz es', [⟨sz, [], 2⟩, tik sz n'])) :
    pcallv C (.fn g []) (.own i sz es :: more) hp = some (.own hp.length sz es', hp.set i ⟨sz, [], 2⟩ ++ [tik sz n']) := by
  have hm' := List.all_eq_true.1 hm
  have hlt : i < hp.length := (List.getElem?_eq_some_iff.1 hi).1
  unfold pcallv psub
  simp only [List.append_nil]
  rw [if_pos hs, if_neg (by simp [noBoxB, deep])]
  have e1 : (PV.own i sz es :: more).flatMap (boxesIn deep) = [i] := by
    rw [List.flatMap_cons, List.flatMap_eq_nil_iff.2 (fun c hc => noBox_in _ _ (hm' c hc))]; rfl
  rw [e1, reach_one hi (tik_in sz n) 9998]
  unfold psubI
  have e2 : (nodB [i] && [i].all fun i => Nat.blt i hp.length) = true := by simp [nodB, Nat.blt]; omega
  rw [e2]
  have e3 : (PV.own i sz es :: more).map (ren (posIn [i]) deep) = .own 0 sz es :: more := by
    rw [List.map_cons]
    congr 1
    · show (match posIn [i] i with | some j => PV.own j sz es | none => PV.lst sz es) = _
      rw [posIn_self]
    · conv => rhs; rw [← List.map_id more]
      exact List.map_congr_left fun c hc => noBox_ren _ _ (hm' c hc)
  have e4 : pick hp [i] = [tik sz n] := by
    unfold pick
    simp only [List.map_cons, List.map_nil, hi, renB_tik]
  rw [e3, e4]
  simp only [hc]
  have e5 : Nat.ble [i].length [(⟨sz, [], 2⟩ : Box), tik sz n'].length = true := rfl
  rw [e5]
  simp only [setAll, renB_tik, List.map_cons, List.map_nil]
  rfl
end Go.Proofs.YtfhojpnofmlkdaaDoor.Pv
