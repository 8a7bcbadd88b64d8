/- The reference's Cancels; equal codes. -/
import Derived.Test.YtkfmhmkeikhdbaaDoorKa
namespace Go.Proofs.YtkfmhmkeikhdbaaDoor
open Go.Proofs.YtkfmhmkeikhdbaaDoor.Pv Go.RowKit
set_option maxRecDepth 100000
set_option maxHeartbeats 4000000
set_option linter.unusedSimpArgs false
set_option linter.unusedVariables false
def ctl (k : Int) : Bool := k == 0 || (decide (k ≥ 21) && decide (k ≤ 27)) || decide (k ≥ 30)
def inv35 (k : Int) : Int := if k = 1 then 2 else if k = 2 then 1 else if k = 4 then 5 else if k = 5 then 4 else if k = 12 then 13 else if k = 13 then 12 else if k = 17 then 18 else if k = 18 then 17 else if k = 19 then 20 else if k = 20 then 19 else if k = 28 then 29 else if k = 29 then 28 else k
def canR (x y : Ins) : Bool := !ctl x.k && cmpI ⟨inv35 x.k, x.a, x.b, x.c, x.d⟩ y
theorem ok34 (k : Int) : Ok Tryd.prog X.G 34 [.int .u8 k] (.bool (ctl k)) := by
  refine wok env (tab_orc tn tn') fd34 (t34 k) ?_
  have fin : ∀ (b : Bool) (bs : List Pv.Box), b = ctl k → Fz bs (.bool b) (.bool (ctl k)) := fun b bs e => by subst e; exact ⟨_, _, rfl, Sub.refl _⟩
  simp only [Holds]
  refine ⟨fun h => fin _ _ (by simp [ctl, h]), fun h1 => ⟨fun h2 => ⟨fun h3 => fin _ _ ?_, fun h3 => ⟨fun h4 => fin _ _ ?_, fun h4 => fin _ _ ?_⟩⟩, fun h2 => ⟨fun h3 => fin _ _ ?_, fun h3 => fin _ _ ?_⟩⟩⟩
  · simp only [ctl, h1, h2, h3, Bool.true_and, Bool.or_true, Bool.true_or]
  · simp only [ctl, h1, h2, h3, h4, Bool.or_true]
  · simp only [ctl, h1, h2, h3, h4, Bool.and_false, Bool.or_false]
  · simp only [ctl, h1, h2, h3, Bool.or_true]
  · simp only [ctl, h1, h2, h3, Bool.false_and, Bool.or_false]
theorem ok35 (k : Int) : Ok Tryd.prog X.G 35 [.int .u8 k] (.int .u8 (inv35 k)) := by
  refine wok env (tab_orc tn tn') fd35 (t35 k) ?_
  have fin : ∀ (v : Int) (bs : List Pv.Box), v = inv35 k → Fz bs (.int .u8 v) (.int .u8 (inv35 k)) := fun v bs e => by subst e; exact ⟨_, _, rfl, Sub.refl _⟩
  simp only [Holds]
  refine ⟨fun h => fin _ _ (by rw [beq_iff_eq] at h; subst h; rfl), fun h1 => ?_⟩
  refine ⟨fun h => fin _ _ (by rw [beq_iff_eq] at h; subst h; rfl), fun h2 => ?_⟩
  refine ⟨fun h => fin _ _ (by rw [beq_iff_eq] at h; subst h; rfl), fun h3 => ?_⟩
  refine ⟨fun h => fin _ _ (by rw [beq_iff_eq] at h; subst h; rfl), fun h4 => ?_⟩
  refine ⟨fun h => fin _ _ (by rw [beq_iff_eq] at h; subst h; rfl), fun h5 => ?_⟩
  refine ⟨fun h => fin _ _ (by rw [beq_iff_eq] at h; subst h; rfl), fun h6 => ?_⟩
  refine ⟨fun h => fin _ _ (by rw [beq_iff_eq] at h; subst h; rfl), fun h7 => ?_⟩
  refine ⟨fun h => fin _ _ (by rw [beq_iff_eq] at h; subst h; rfl), fun h8 => ?_⟩
  refine ⟨fun h => fin _ _ (by rw [beq_iff_eq] at h; subst h; rfl), fun h9 => ?_⟩
  refine ⟨fun h => fin _ _ (by rw [beq_iff_eq] at h; subst h; rfl), fun h10 => ?_⟩
  refine ⟨fun h => fin _ _ (by rw [beq_iff_eq] at h; subst h; rfl), fun h11 => ?_⟩
  refine ⟨fun h => fin _ _ (by rw [beq_iff_eq] at h; subst h; rfl), fun h12 => ?_⟩
  refine fin _ _ ?_
  simp only [beq_eq_false_iff_ne] at *
  unfold inv35
  repeat rw [if_neg (by omega)]
theorem ok14 (x y : Ins) : Ok Tryd.prog X.G 14 [x.pv, y.pv] (.bool (canR x y)) := by
  obtain ⟨h34, e34, o34⟩ := ent_ex (fun _ => True) (fun k : Int => ([PV.int .u8 k], .bool (ctl k))) (fun a b h => by simp only [List.cons.injEq, and_true, PV.int.injEq, true_and] at h; rw [h])
  obtain ⟨h35, e35, o35⟩ := ent_ex (fun _ => True) (fun k : Int => ([PV.int .u8 k], .int .u8 (inv35 k))) (fun a b h => by simp only [List.cons.injEq, and_true, PV.int.injEq, true_and] at h; rw [h])
  have hT : TabOk Tryd.prog X.G [(34, h34), (35, h35)] := tk (fun l r e => by obtain ⟨a, ha, rfl, rfl⟩ := o34 l r e; exact ok34 a) (tk (fun l r e => by obtain ⟨a, ha, rfl, rfl⟩ := o35 l r e; exact ok35 a) tn)
  refine wok env (tab_orc hT tn') fd14 (t14 h34 h35 x y (ctl x.k) (inv35 x.k)) ?_
  have c34 : (tab X.sh [(34, h34), (35, h35)] []).iso 34 [.int .u8 x.k] = some (.bool (ctl x.k)) := e34 _ trivial
  have c35 : (tab X.sh [(34, h34), (35, h35)] []).iso 35 [.int .u8 x.k] = some (.int .u8 (inv35 x.k)) := e35 _ trivial
  have fin : ∀ (b : Bool) (bs : List Pv.Box), b = canR x y → Fz bs (.bool b) (.bool (canR x y)) := fun b bs e => by subst e; exact ⟨_, _, rfl, Sub.refl _⟩
  simp only [Holds]
  refine ⟨fun ht => ⟨by rw [ht] at c34; exact pcallv_iso rfl rfl c34, fin _ _ (by simp [canR, ht])⟩, fun ht => ⟨by rw [ht] at c34; exact pcallv_iso rfl rfl c34, pcallv_iso rfl rfl c35, fun h => fin _ _ ?_, fun h => fin _ _ ?_⟩⟩
  · have h' : cmpI ⟨inv35 x.k, x.a, x.b, x.c, x.d⟩ y = true := h
    simp [canR, ht, h']
  · have h' : cmpI ⟨inv35 x.k, x.a, x.b, x.c, x.d⟩ y = false := h
    simp [canR, ht, h']
theorem ctl_k (k : Int) (h0 : 0 ≤ k) (h : k < 35) : (!tb k && (!(k == 34) && (!(k == 21) && !(k == 0)))) = !ctl k ∧ (ctl k = false → invO k = inv35 k) := by
  rcases (by omega : k = 0 ∨ k = 1 ∨ k = 2 ∨ k = 3 ∨ k = 4 ∨ k = 5 ∨ k = 6 ∨ k = 7 ∨ k = 8 ∨ k = 9 ∨ k = 10 ∨ k = 11 ∨ k = 12 ∨ k = 13 ∨ k = 14 ∨ k = 15 ∨ k = 16 ∨ k = 17 ∨ k = 18 ∨ k = 19 ∨ k = 20 ∨ k = 21 ∨ k = 22 ∨ k = 23 ∨ k = 24 ∨ k = 25 ∨ k = 26 ∨ k = 27 ∨ k = 28 ∨ k = 29 ∨ k = 30 ∨ k = 31 ∨ k = 32 ∨ k = 33 ∨ k = 34) with rfl | rfl | rfl | rfl | rfl | rfl | rfl | rfl | rfl | rfl | rfl | rfl | rfl | rfl | rfl | rfl | rfl | rfl | rfl | rfl | rfl | rfl | rfl | rfl | rfl | rfl | rfl | rfl | rfl | rfl | rfl | rfl | rfl | rfl | rfl <;> exact ⟨by decide, by decide⟩
theorem can_ref {x y : Ins} (hx : By x) (hv : vld x = true) : canR x y = can x y := by
  have hk : x.k < 35 := by
    unfold vld validB at hv
    simp only [Bool.and_eq_true, decide_eq_true_eq] at hv
    exact hv.1
  obtain ⟨e1, e2⟩ := ctl_k x.k hx.1 hk
  rw [can_def, hv]
  have : (!tb x.k && (!(x.k == 34) && (!(x.k == 21) && (!(x.k == 0) && (true && cmpI y (inI x)))))) = ((!tb x.k && (!(x.k == 34) && (!(x.k == 21) && !(x.k == 0)))) && cmpI y (inI x)) := by
    simp only [Bool.true_and, Bool.and_assoc]
  rw [this, e1]
  unfold canR
  cases hc : ctl x.k
  · rw [cmpI_iff, cmpI_iff]
    have e3 : (⟨inv35 x.k, x.a, x.b, x.c, x.d⟩ : Ins) = inI x := by unfold inI; rw [e2 hc]
    rw [e3]
    simp only [Bool.not_false, Bool.true_and]
    rw [Bool.eq_iff_iff]; simp [eq_comm]
  · rfl
theorem ins_cells (x : Ins) : (x.pv).cells? = some x.cs := rfl
def cur18 (xs ys : List Ins) (i : Nat) : PS := ⟨⟨26, [(13, .int .i64 ((i : Nat) : Int)), (1, code ys), (0, code xs), (12, .int .i64 (xs.length : Int))]⟩, []⟩
theorem lp18 (xs ys : List Ins) (hl : xs.length = ys.length) (hb : xs.length ≤ 1000000) : ∀ r i, i + r = xs.length →
    (xs.drop i = ys.drop i → LoopOk Tryd.prog X.G 0 (lpB Tryd.f18 4) (cur18 xs ys i) (.exit 0) ⟨⟨26, []⟩, []⟩) ∧ (xs.drop i ≠ ys.drop i → LoopOk Tryd.prog X.G 0 (lpB Tryd.f18 4) (cur18 xs ys i) .ret ⟨⟨26, [(4, .bool false)]⟩, []⟩) := by
  intro r
  induction r with
  | zero =>
    intro i hi
    obtain rfl : i = xs.length := by omega
    refine ⟨fun _ => round_ok env.mixed (tab_orc tn tn') (by kernel_rfl) (r18 _ xs ys ⟨0, 0, 0, 0, 0⟩ ⟨0, 0, 0, 0, 0⟩) ?_, fun h => absurd (by rw [List.drop_length, hl, List.drop_length]) h⟩
    simp only [Holds, Pv.Next]
    exact ⟨fun h => absurd h (by simp), fun _ => ⟨trivial, ⟨trivial, trivial, trivial, trivial⟩, trivial, trivial⟩⟩
  | succ r ih =>
    intro i hi
    obtain ⟨x, hx⟩ : ∃ x, xs[i]? = some x := ⟨_, List.getElem?_eq_getElem (by omega)⟩
    obtain ⟨y, hy⟩ : ∃ y, ys[i]? = some y := ⟨_, List.getElem?_eq_getElem (by omega)⟩
    have dx : xs.drop i = x :: xs.drop (i + 1) := by rw [List.drop_eq_getElem_cons (by omega)]; rw [(List.getElem?_eq_some_iff.1 hx).2]
    have dy : ys.drop i = y :: ys.drop (i + 1) := by rw [List.drop_eq_getElem_cons (by omega)]; rw [(List.getElem?_eq_some_iff.1 hy).2]
    obtain ⟨ih1, ih2⟩ := ih (i + 1) (by omega)
    have px := pidx_lst (P := Tryd.prog) (T := 28) (k := .i64) Tryd.underlying28 (by kernel_rfl : szT Tryd.prog 23 = some 5) hx (ins_cells x)
    have py := pidx_lst (P := Tryd.prog) (T := 28) (k := .i64) Tryd.underlying28 (by kernel_rfl : szT Tryd.prog 23 = some 5) hy (ins_cells y)
    have hw := wsucc (i := i) (by omega)
    have main : ∀ (e : PE) (s' : PS), (cmpI x y = true → LoopOk Tryd.prog X.G 0 (lpB Tryd.f18 4) (cur18 xs ys (i + 1)) e s') → (cmpI x y = false → PE.ret = e ∧ (⟨⟨26, [(4, .bool false)]⟩, []⟩ : PS) = s') → LoopOk Tryd.prog X.G 0 (lpB Tryd.f18 4) (cur18 xs ys i) e s' := fun e s' k1 k2 => by
      refine round_ok env.mixed (tab_orc tn tn') (by kernel_rfl) (r18 i xs ys x y) ?_
      simp only [Holds, Pv.Next]
      refine ⟨fun _ => ⟨congrArg (Option.map fun v => (v, ([] : List Pv.Box))) px, congrArg (Option.map fun v => (v, ([] : List Pv.Box))) py, fun h => ⟨trivial, ⟨trivial, trivial, ⟨VW.bool rfl, trivial⟩, trivial⟩, ?_⟩, fun h => ⟨⟨trivial, trivial, ⟨VW.int hw, VW.lst rfl rfl, VW.lst rfl rfl, VW.int ?_, trivial⟩, trivial⟩, ?_⟩⟩, fun h => absurd h (by simp; omega)⟩
      · exact k2 (by have : (!cmpI x y) = true := h; simpa using this)
      · rfl
      · exact k1 (by have : (!cmpI x y) = false := h; simpa using this)
    rw [dx, dy]
    constructor
    · intro h
      injection h with h1 h2
      exact main _ _ (fun _ => ih1 h2) (fun hc => by rw [cmpI_iff] at hc; simp at hc; exact absurd h1 hc)
    · intro h
      refine main _ _ (fun hc => ih2 fun h2 => h ?_) (fun _ => ⟨rfl, rfl⟩)
      rw [cmpI_iff] at hc
      simp at hc
      rw [hc, h2]
theorem ok18 (xs ys : List Ins) (hb : xs.length ≤ 1000000) : Ok Tryd.prog X.G 18 [code xs, code ys] (.bool (decide (xs = ys))) := by
  have fin : ∀ (b : Bool) (bs : List Pv.Box), b = decide (xs = ys) → Fz bs (.bool b) (.bool (decide (xs = ys))) := fun b bs e => by subst e; exact ⟨_, _, rfl, Sub.refl _⟩
  by_cases hl : xs.length = ys.length
  · obtain ⟨h1, h2⟩ := lp18 xs ys hl hb xs.length 0 (by omega)
    have c : ∀ p : Prop, ((((xs.map Ins.pv).length : Int) != ((ys.map Ins.pv).length : Int)) = true → p) := fun p h => by simp [hl] at h
    by_cases e : xs = ys
    · refine wok env (tab_orc tn tn') fd18 (t18a xs ys) ?_
      simp only [Holds]
      exact ⟨c _, fun _ => ⟨⟨trivial, trivial, ⟨VW.int rfl, VW.lst rfl rfl, VW.lst rfl rfl, VW.int (by rw [List.length_map]), trivial⟩, trivial⟩, h1 (by rw [e]), fin _ _ (by simp [e])⟩⟩
    · refine wok env (tab_orc tn tn') fd18 (t18b xs ys) ?_
      simp only [Holds]
      exact ⟨c _, fun _ => ⟨⟨trivial, trivial, ⟨VW.int rfl, VW.lst rfl rfl, VW.lst rfl rfl, VW.int (by rw [List.length_map]), trivial⟩, trivial⟩, h2 (by simpa using e), fin _ _ (by simp [e])⟩⟩
  · refine wok env (tab_orc tn tn') fd18 (t18a xs ys) ?_
    have e : ¬ xs = ys := fun h => hl (by rw [h])
    simp only [Holds]
    refine ⟨fun _ => fin _ _ (by simp [e]), fun h => ?_⟩
    simp only [List.length_map] at h
    exact absurd h (by simp; omega)
end Go.Proofs.YtkfmhmkeikhdbaaDoor
