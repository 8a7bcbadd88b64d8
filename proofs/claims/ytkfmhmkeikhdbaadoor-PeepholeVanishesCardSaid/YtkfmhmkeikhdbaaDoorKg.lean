/- The optimizer's functions, by what they answer. -/
import Derived.Test.YtkfmhmkeikhdbaaDoorRa
import Derived.Test.YtkfmhmkeikhdbaaDoorPvZ
namespace Go.Proofs.YtkfmhmkeikhdbaaDoor
open Go.Proofs.YtkfmhmkeikhdbaaDoor.Pv Go.RowKit
set_option maxRecDepth 100000
set_option maxHeartbeats 8000000
set_option linter.unusedSimpArgs false
set_option linter.unusedVariables false
theorem ok11 (x : Ins) : Ok Tryd.prog X.G 11 [x.pv] (inI x).pv := by
  refine wok env (tab_orc tn tn') fd11 (t11 x) ?_
  have fin : ∀ (v : Int) (bs : List Pv.Box), v = invO x.k → Fz bs (.agg [.int .u8 v, .int .i64 x.a, .int .i64 x.b, .int .i64 x.c, .int .i64 x.d]) (inI x).pv := fun v bs e => by
    subst e; exact ⟨_, _, rfl, Sub.refl _⟩
  simp only [Holds]
  refine ⟨fun h => fin _ _ (by rw [beq_iff_eq] at h; rw [h]; rfl), fun h1 => ?_⟩
  refine ⟨fun h => fin _ _ (by rw [beq_iff_eq] at h; rw [h]; rfl), fun h2 => ?_⟩
  refine ⟨fun h => fin _ _ (by rw [beq_iff_eq] at h; rw [h]; rfl), fun h3 => ?_⟩
  refine ⟨fun h => fin _ _ (by rw [beq_iff_eq] at h; rw [h]; rfl), fun h4 => ?_⟩
  refine ⟨fun h => fin _ _ (by rw [beq_iff_eq] at h; rw [h]; rfl), fun h5 => ?_⟩
  refine ⟨fun h => fin _ _ (by rw [beq_iff_eq] at h; rw [h]; rfl), fun h6 => ?_⟩
  refine ⟨fun h => fin _ _ (by rw [beq_iff_eq] at h; rw [h]; rfl), fun h7 => ?_⟩
  refine ⟨fun h => fin _ _ (by rw [beq_iff_eq] at h; rw [h]; rfl), fun h8 => ?_⟩
  refine ⟨fun h => fin _ _ (by rw [beq_iff_eq] at h; rw [h]; rfl), fun h9 => ?_⟩
  refine ⟨fun h => fin _ _ (by rw [beq_iff_eq] at h; rw [h]; rfl), fun h10 => ?_⟩
  refine ⟨fun h => fin _ _ (by rw [beq_iff_eq] at h; rw [h]; rfl), fun h11 => ?_⟩
  refine ⟨fun h => fin _ _ (by rw [beq_iff_eq] at h; rw [h]; rfl), fun h12 => ?_⟩
  refine ⟨fun h => fin _ _ (by rw [beq_iff_eq] at h; rw [h]; rfl), fun h13 => ?_⟩
  refine ⟨fun h => fin _ _ (by rw [beq_iff_eq] at h; rw [h]; rfl), fun h14 => ?_⟩
  refine ⟨fun h => fin _ _ (by rw [beq_iff_eq] at h; rw [h]; rfl), fun h15 => ?_⟩
  refine ⟨fun h => fin _ _ (by rw [beq_iff_eq] at h; rw [h]; rfl), fun h16 => ?_⟩
  refine ⟨fun h => fin _ _ (by rw [beq_iff_eq] at h; rw [h]; rfl), fun h17 => ?_⟩
  refine ⟨fun h => fin _ _ (by rw [beq_iff_eq] at h; rw [h]; rfl), fun h18 => ?_⟩
  refine ⟨fun h => fin _ _ (by rw [beq_iff_eq] at h; rw [h]; rfl), fun h19 => ?_⟩
  refine ⟨fun h => fin _ _ (by rw [beq_iff_eq] at h; rw [h]; rfl), fun h20 => ?_⟩
  exact fin _ _ (by simp only [beq_eq_false_iff_ne] at *; rw [invO_other x.k (by omega)])
def cmpI (x y : Ins) : Bool := x.k == y.k && (x.a == y.a && (x.b == y.b && (x.c == y.c && (x.d == y.d && true))))
theorem cmpI_iff (x y : Ins) : cmpI x y = decide (x = y) := by
  rw [Bool.eq_iff_iff]
  cases x; cases y; simp [cmpI]
theorem can_def (x y : Ins) : can x y = (!tb x.k && (!(x.k == 34) && (!(x.k == 21) && (!(x.k == 0) && (vld x && cmpI y (inI x)))))) := by
  rw [Bool.eq_iff_iff, can_iff, cmpI_iff]
  simp
theorem ok12 (x y : Ins) (hx : By x) : Ok Tryd.prog X.G 12 [x.pv, y.pv] (.bool (can x y)) := by
  obtain ⟨h27, e27, o27⟩ := ent_ex By (fun x : Ins => ([x.pv], .tup [.int .i64 (tgt x), .bool (tb x.k)])) (fun a b h => by simp only [List.cons.injEq, and_true] at h; rw [Ins.pv_inj h])
  obtain ⟨h13, e13, o13⟩ := ent_ex By (fun x : Ins => ([x.pv], .bool (vld x))) (fun a b h => by simp only [List.cons.injEq, and_true] at h; rw [Ins.pv_inj h])
  obtain ⟨h11, e11, o11⟩ := ent_ex (fun _ => True) (fun x : Ins => ([x.pv], (inI x).pv)) (fun a b h => by simp only [List.cons.injEq, and_true] at h; rw [Ins.pv_inj h])
  have hT : TabOk Tryd.prog X.G [(27, h27), (13, h13), (11, h11)] := tk (fun l r e => by obtain ⟨a, ha, rfl, rfl⟩ := o27 l r e; exact ok27 a ha) (tk (fun l r e => by obtain ⟨a, ha, rfl, rfl⟩ := o13 l r e; exact ok13 a ha) (tk (fun l r e => by obtain ⟨a, ha, rfl, rfl⟩ := o11 l r e; exact ok11 a) tn))
  refine wok env (tab_orc hT tn') fd12 (t12 h27 h13 h11 x y (inI x) (tgt x) (tb x.k) (vld x)) ?_
  have c27 : (tab X.sh [(27, h27), (13, h13), (11, h11)] []).iso 27 [x.pv] = some (.tup [.int .i64 (tgt x), .bool (tb x.k)]) := e27 x hx
  have c13 : (tab X.sh [(27, h27), (13, h13), (11, h11)] []).iso 13 [x.pv] = some (.bool (vld x)) := e13 x hx
  have c11 : (tab X.sh [(27, h27), (13, h13), (11, h11)] []).iso 11 [x.pv] = some (inI x).pv := e11 x trivial
  have fin : ∀ (b : Bool) (bs : List Pv.Box), b = can x y → Fz bs (.bool b) (.bool (can x y)) := fun b bs e => by subst e; exact ⟨_, _, rfl, Sub.refl _⟩
  simp only [Holds]
  rw [can_def] at fin ⊢
  refine ⟨fun ht => ⟨by rw [ht] at c27; exact pcallv_iso rfl rfl c27, fin _ _ (by simp [ht])⟩, fun ht => ⟨by rw [ht] at c27; exact pcallv_iso rfl rfl c27, ?_⟩⟩
  refine ⟨fun h => fin _ _ (by simp [h]), fun h1 => ⟨fun h => fin _ _ (by simp [h]), fun h2 => ⟨fun h => fin _ _ (by simp [h]), fun h3 => ?_⟩⟩⟩
  refine ⟨fun hv => ⟨by rw [hv] at c13; exact pcallD_iso rfl rfl c13, by exact pcallD_iso rfl rfl c11, ?_⟩, fun hv => ⟨by rw [hv] at c13; exact pcallD_iso rfl rfl c13, fin _ _ (by simp [hv])⟩⟩
  refine ⟨fun h => fin _ _ ?_, fun h => fin _ _ ?_⟩
  · have h' : cmpI y (inI x) = true := h
    simp [ht, h1, h2, h3, hv, h']
  · have h' : cmpI y (inI x) = false := h
    simp [h']
def ctl (k : Int) : Bool := k == 0 || (decide (k ≥ 21) && decide (k ≤ 27)) || decide (k ≥ 30)
def inv35 (k : Int) : Int := if k = 1 then 2 else if k = 2 then 1 else if k = 4 then 5 else if k = 5 then 4 else if k = 12 then 13 else if k = 13 then 12 else if k = 17 then 18 else if k = 18 then 17 else if k = 19 then 20 else if k = 20 then 19 else if k = 28 then 29 else if k = 29 then 28 else k
def canR (x y : Ins) : Bool := !ctl x.k && cmpI ⟨inv35 x.k, x.a, x.b, x.c, x.d⟩ y
theorem ok34 (k : Int) : Ok Tryd.prog X.G 34 [.int .u8 k] (.bool (ctl k)) := by
  refine wok env (tab_orc tn tn') fd34 (t34 k) ?_
  have fin : ∀ (b : Bool) (bs : List Pv.Box), b = ctl k → Fz bs (.bool b) (.bool (ctl k)) := fun b bs e => by subst e; exact ⟨_, _, rfl, Sub.refl _⟩
  simp only [Holds]
  refine ⟨fun h => fin _ _ (by simp [ctl, h]), fun h1 => ⟨fun h2 => ⟨fun h3 => fin _ _ ?_, fun h3 => ⟨fun h4 => fin _ _ ?_, fun h4 => fin _ _ ?_⟩⟩, fun h2 => ⟨fun h3 => fin _ _ ?_, fun h3 => fin _ _ ?_⟩⟩⟩
  · simp only [ctl, h1, h2, h3, Bool.true_and, Bool.or_true, Bool.true_or]
  · simp only [ctl, h1, h2, h3, h4, Bool.or_true]
  · simp only [ctl, h1, h2, h3, h4, Bool.and_false, Bool.or_false]
  · simp only [ctl, h1, h2, h3, Bool.or_true]
  · simp only [ctl, h1, h2, h3, Bool.false_and, Bool.or_false]
theorem ok35 (k : Int) : Ok Tryd.prog X.G 35 [.int .u8 k] (.int .u8 (inv35 k)) := by
  refine wok env (tab_orc tn tn') fd35 (t35 k) ?_
  have fin : ∀ (v : Int) (bs : List Pv.Box), v = inv35 k → Fz bs (.int .u8 v) (.int .u8 (inv35 k)) := fun v bs e => by subst e; exact ⟨_, _, rfl, Sub.refl _⟩
  simp only [Holds]
  refine ⟨fun h => fin _ _ (by rw [beq_iff_eq] at h; subst h; rfl), fun h1 => ?_⟩
  refine ⟨fun h => fin _ _ (by rw [beq_iff_eq] at h; subst h; rfl), fun h2 => ?_⟩
  refine ⟨fun h => fin _ _ (by rw [beq_iff_eq] at h; subst h; rfl), fun h3 => ?_⟩
  refine ⟨fun h => fin _ _ (by rw [beq_iff_eq] at h; subst h; rfl), fun h4 => ?_⟩
  refine ⟨fun h => fin _ _ (by rw [beq_iff_eq] at h; subst h; rfl), fun h5 => ?_⟩
  refine ⟨fun h => fin _ _ (by rw [beq_iff_eq] at h; subst h; rfl), fun h6 => ?_⟩
  refine ⟨fun h => fin _ _ (by rw [beq_iff_eq] at h; subst h; rfl), fun h7 => ?_⟩
  refine ⟨fun h => fin _ _ (by rw [beq_iff_eq] at h; subst h; rfl), fun h8 => ?_⟩
  refine ⟨fun h => fin _ _ (by rw [beq_iff_eq] at h; subst h; rfl), fun h9 => ?_⟩
  refine ⟨fun h => fin _ _ (by rw [beq_iff_eq] at h; subst h; rfl), fun h10 => ?_⟩
  refine ⟨fun h => fin _ _ (by rw [beq_iff_eq] at h; subst h; rfl), fun h11 => ?_⟩
  refine ⟨fun h => fin _ _ (by rw [beq_iff_eq] at h; subst h; rfl), fun h12 => ?_⟩
  refine fin _ _ ?_
  simp only [beq_eq_false_iff_ne] at *
  unfold inv35
  repeat rw [if_neg (by omega)]
theorem ok14 (x y : Ins) : Ok Tryd.prog X.G 14 [x.pv, y.pv] (.bool (canR x y)) := by
  obtain ⟨h34, e34, o34⟩ := ent_ex (fun _ => True) (fun k : Int => ([PV.int .u8 k], .bool (ctl k))) (fun a b h => by simp only [List.cons.injEq, and_true, PV.int.injEq, true_and] at h; rw [h])
  obtain ⟨h35, e35, o35⟩ := ent_ex (fun _ => True) (fun k : Int => ([PV.int .u8 k], .int .u8 (inv35 k))) (fun a b h => by simp only [List.cons.injEq, and_true, PV.int.injEq, true_and] at h; rw [h])
  have hT : TabOk Tryd.prog X.G [(34, h34), (35, h35)] := tk (fun l r e => by obtain ⟨a, ha, rfl, rfl⟩ := o34 l r e; exact ok34 a) (tk (fun l r e => by obtain ⟨a, ha, rfl, rfl⟩ := o35 l r e; exact ok35 a) tn)
  refine wok env (tab_orc hT tn') fd14 (t14 h34 h35 x y (ctl x.k) (inv35 x.k)) ?_
  have c34 : (tab X.sh [(34, h34), (35, h35)] []).iso 34 [.int .u8 x.k] = some (.bool (ctl x.k)) := e34 _ trivial
  have c35 : (tab X.sh [(34, h34), (35, h35)] []).iso 35 [.int .u8 x.k] = some (.int .u8 (inv35 x.k)) := e35 _ trivial
  have fin : ∀ (b : Bool) (bs : List Pv.Box), b = canR x y → Fz bs (.bool b) (.bool (canR x y)) := fun b bs e => by subst e; exact ⟨_, _, rfl, Sub.refl _⟩
  simp only [Holds]
  refine ⟨fun ht => ⟨by rw [ht] at c34; exact pcallv_iso rfl rfl c34, fin _ _ (by simp [canR, ht])⟩, fun ht => ⟨by rw [ht] at c34; exact pcallv_iso rfl rfl c34, pcallv_iso rfl rfl c35, fun h => fin _ _ ?_, fun h => fin _ _ ?_⟩⟩
  · have h' : cmpI ⟨inv35 x.k, x.a, x.b, x.c, x.d⟩ y = true := h
    simp [canR, ht, h']
  · have h' : cmpI ⟨inv35 x.k, x.a, x.b, x.c, x.d⟩ y = false := h
    simp [canR, ht, h']
theorem ctl_k (k : Int) (h0 : 0 ≤ k) (h : k < 35) : (!tb k && (!(k == 34) && (!(k == 21) && !(k == 0)))) = !ctl k ∧ (ctl k = false → invO k = inv35 k) := by
  rcases (by omega : k = 0 ∨ k = 1 ∨ k = 2 ∨ k = 3 ∨ k = 4 ∨ k = 5 ∨ k = 6 ∨ k = 7 ∨ k = 8 ∨ k = 9 ∨ k = 10 ∨ k = 11 ∨ k = 12 ∨ k = 13 ∨ k = 14 ∨ k = 15 ∨ k = 16 ∨ k = 17 ∨ k = 18 ∨ k = 19 ∨ k = 20 ∨ k = 21 ∨ k = 22 ∨ k = 23 ∨ k = 24 ∨ k = 25 ∨ k = 26 ∨ k = 27 ∨ k = 28 ∨ k = 29 ∨ k = 30 ∨ k = 31 ∨ k = 32 ∨ k = 33 ∨ k = 34) with rfl | rfl | rfl | rfl | rfl | rfl | rfl | rfl | rfl | rfl | rfl | rfl | rfl | rfl | rfl | rfl | rfl | rfl | rfl | rfl | rfl | rfl | rfl | rfl | rfl | rfl | rfl | rfl | rfl | rfl | rfl | rfl | rfl | rfl | rfl <;> exact ⟨by decide, by decide⟩
theorem can_ref {x y : Ins} (hx : By x) (hv : vld x = true) : canR x y = can x y := by
  have hk : x.k < 35 := by
    unfold vld validB at hv
    simp only [Bool.and_eq_true, decide_eq_true_eq] at hv
    exact hv.1
  obtain ⟨e1, e2⟩ := ctl_k x.k hx.1 hk
  rw [can_def, hv]
  have : (!tb x.k && (!(x.k == 34) && (!(x.k == 21) && (!(x.k == 0) && (true && cmpI y (inI x)))))) = ((!tb x.k && (!(x.k == 34) && (!(x.k == 21) && !(x.k == 0)))) && cmpI y (inI x)) := by
    simp only [Bool.true_and, Bool.and_assoc]
  rw [this, e1]
  unfold canR
  cases hc : ctl x.k
  · rw [cmpI_iff, cmpI_iff]
    have e3 : (⟨inv35 x.k, x.a, x.b, x.c, x.d⟩ : Ins) = inI x := by unfold inI; rw [e2 hc]
    rw [e3]
    simp only [Bool.not_false, Bool.true_and]
    rw [Bool.eq_iff_iff]; simp [eq_comm]
  · rfl
theorem ins_cells (x : Ins) : (x.pv).cells? = some x.cs := rfl
def cur18 (xs ys : List Ins) (i : Nat) : PS := ⟨⟨26, [(13, .int .i64 ((i : Nat) : Int)), (1, code ys), (0, code xs), (12, .int .i64 (xs.length : Int))]⟩, []⟩
theorem lp18 (xs ys : List Ins) (hl : xs.length = ys.length) (hb : xs.length ≤ 1000000) : ∀ r i, i + r = xs.length →
    (xs.drop i = ys.drop i → LoopOk Tryd.prog X.G 0 (lpB Tryd.f18 4) (cur18 xs ys i) (.exit 0) ⟨⟨26, []⟩, []⟩) ∧ (xs.drop i ≠ ys.drop i → LoopOk Tryd.prog X.G 0 (lpB Tryd.f18 4) (cur18 xs ys i) .ret ⟨⟨26, [(4, .bool false)]⟩, []⟩) := by
  intro r
  induction r with
  | zero =>
    intro i hi
    obtain rfl : i = xs.length := by omega
    refine ⟨fun _ => round_ok env.mixed (tab_orc tn tn') (by kernel_rfl) (r18 _ xs ys ⟨0, 0, 0, 0, 0⟩ ⟨0, 0, 0, 0, 0⟩) ?_, fun h => absurd (by rw [List.drop_length, hl, List.drop_length]) h⟩
    simp only [Holds, Pv.Next]
    exact ⟨fun h => absurd h (by simp), fun _ => ⟨trivial, ⟨trivial, trivial, trivial, trivial⟩, trivial, trivial⟩⟩
  | succ r ih =>
    intro i hi
    obtain ⟨x, hx⟩ : ∃ x, xs[i]? = some x := ⟨_, List.getElem?_eq_getElem (by omega)⟩
    obtain ⟨y, hy⟩ : ∃ y, ys[i]? = some y := ⟨_, List.getElem?_eq_getElem (by omega)⟩
    have dx : xs.drop i = x :: xs.drop (i + 1) := by rw [List.drop_eq_getElem_cons (by omega)]; rw [(List.getElem?_eq_some_iff.1 hx).2]
    have dy : ys.drop i = y :: ys.drop (i + 1) := by rw [List.drop_eq_getElem_cons (by omega)]; rw [(List.getElem?_eq_some_iff.1 hy).2]
    obtain ⟨ih1, ih2⟩ := ih (i + 1) (by omega)
    have px := pidx_lst (P := Tryd.prog) (T := 28) (k := .i64) Tryd.underlying28 (by kernel_rfl : szT Tryd.prog 23 = some 5) hx (ins_cells x)
    have py := pidx_lst (P := Tryd.prog) (T := 28) (k := .i64) Tryd.underlying28 (by kernel_rfl : szT Tryd.prog 23 = some 5) hy (ins_cells y)
    have hw := wsucc (i := i) (by omega)
    have main : ∀ (e : PE) (s' : PS), (cmpI x y = true → LoopOk Tryd.prog X.G 0 (lpB Tryd.f18 4) (cur18 xs ys (i + 1)) e s') → (cmpI x y = false → PE.ret = e ∧ (⟨⟨26, [(4, .bool false)]⟩, []⟩ : PS) = s') → LoopOk Tryd.prog X.G 0 (lpB Tryd.f18 4) (cur18 xs ys i) e s' := fun e s' k1 k2 => by
      refine round_ok env.mixed (tab_orc tn tn') (by kernel_rfl) (r18 i xs ys x y) ?_
      simp only [Holds, Pv.Next]
      refine ⟨fun _ => ⟨congrArg (Option.map fun v => (v, ([] : List Pv.Box))) px, congrArg (Option.map fun v => (v, ([] : List Pv.Box))) py, fun h => ⟨trivial, ⟨trivial, trivial, ⟨VW.bool rfl, trivial⟩, trivial⟩, ?_⟩, fun h => ⟨⟨trivial, trivial, ⟨VW.int hw, VW.lst rfl rfl, VW.lst rfl rfl, VW.int ?_, trivial⟩, trivial⟩, ?_⟩⟩, fun h => absurd h (by simp; omega)⟩
      · exact k2 (by have : (!cmpI x y) = true := h; simpa using this)
      · rfl
      · exact k1 (by have : (!cmpI x y) = false := h; simpa using this)
    rw [dx, dy]
    constructor
    · intro h
      injection h with h1 h2
      exact main _ _ (fun _ => ih1 h2) (fun hc => by rw [cmpI_iff] at hc; simp at hc; exact absurd h1 hc)
    · intro h
      refine main _ _ (fun hc => ih2 fun h2 => h ?_) (fun _ => ⟨rfl, rfl⟩)
      rw [cmpI_iff] at hc
      simp at hc
      rw [hc, h2]
theorem ok18 (xs ys : List Ins) (hb : xs.length ≤ 1000000) : Ok Tryd.prog X.G 18 [code xs, code ys] (.bool (decide (xs = ys))) := by
  have fin : ∀ (b : Bool) (bs : List Pv.Box), b = decide (xs = ys) → Fz bs (.bool b) (.bool (decide (xs = ys))) := fun b bs e => by subst e; exact ⟨_, _, rfl, Sub.refl _⟩
  by_cases hl : xs.length = ys.length
  · obtain ⟨h1, h2⟩ := lp18 xs ys hl hb xs.length 0 (by omega)
    have c : ∀ p : Prop, ((((xs.map Ins.pv).length : Int) != ((ys.map Ins.pv).length : Int)) = true → p) := fun p h => by simp [hl] at h
    by_cases e : xs = ys
    · refine wok env (tab_orc tn tn') fd18 (t18a xs ys) ?_
      simp only [Holds]
      exact ⟨c _, fun _ => ⟨⟨trivial, trivial, ⟨VW.int rfl, VW.lst rfl rfl, VW.lst rfl rfl, VW.int (by rw [List.length_map]), trivial⟩, trivial⟩, h1 (by rw [e]), fin _ _ (by simp [e])⟩⟩
    · refine wok env (tab_orc tn tn') fd18 (t18b xs ys) ?_
      simp only [Holds]
      exact ⟨c _, fun _ => ⟨⟨trivial, trivial, ⟨VW.int rfl, VW.lst rfl rfl, VW.lst rfl rfl, VW.int (by rw [List.length_map]), trivial⟩, trivial⟩, h2 (by simpa using e), fin _ _ (by simp [e])⟩⟩
  · refine wok env (tab_orc tn tn') fd18 (t18a xs ys) ?_
    have e : ¬ xs = ys := fun h => hl (by rw [h])
    simp only [Holds]
    refine ⟨fun _ => fin _ _ (by simp [e]), fun h => ?_⟩
    simp only [List.length_map] at h
    exact absurd h (by simp; omega)
theorem sz3 : szT Tryd.prog 3 = some 1 := by kernel_rfl
theorem sz23 : szT Tryd.prog 23 = some 5 := by kernel_rfl
theorem z3 : zeroP Tryd.prog 3 = some [.int .i64 0] := by kernel_rfl
theorem z23 : zeroP Tryd.prog 23 = some [.int .u8 0, .int .i64 0, .int .i64 0, .int .i64 0, .int .i64 0] := by kernel_rfl
theorem a3 : isA Tryd.prog 3 = some false := by kernel_rfl
theorem a23 : isA Tryd.prog 23 = some true := by kernel_rfl
theorem by3 : bytesOk Tryd.prog 3 4294967296 = true := by kernel_rfl
theorem by23 : bytesOk Tryd.prog 23 4294967296 = true := by kernel_rfl
theorem nb_ni {c : PV} {l : List Nat} (h : c ∈ l.map ni) : NB c := by obtain ⟨a, _, rfl⟩ := List.mem_map.1 h; exact NB.int _ _
theorem px_code {l : List Ins} {i : Nat} {x : Ins} (h : l[i]? = some x) : pidx Tryd.prog 28 (code l) (.int .i64 ((i : Nat) : Int)) = some (.cptr x.cs) :=
  pidx_lst (P := Tryd.prog) (T := 28) (k := .i64) Tryd.underlying28 sz23 h (ins_cells x)
/-- one step of the stack -/
def kst (l : List Ins) (k : List Nat) (i : Nat) : List Nat :=
  match k.getLast? with
  | some p => if can (l.getD p ⟨0, 0, 0, 0, 0⟩) (l.getD i ⟨0, 0, 0, 0, 0⟩) = true then k.dropLast else k ++ [i]
  | none => [i]
def kps (l : List Ins) : Nat → List Nat
  | 0 => []
  | i + 1 => kst l (kps l i) i
theorem kst_lt {l : List Ins} {k : List Nat} {i : Nat} (h : ∀ p ∈ k, p < i) : ∀ p ∈ kst l k i, p < i + 1 := by
  intro p hp
  unfold kst at hp
  split at hp
  · split at hp
    · have := h p (List.dropLast_subset k hp); omega
    · rcases List.mem_append.1 hp with hp | hp
      · have := h p hp; omega
      · simp at hp; omega
  · simp at hp; omega
theorem kps_lt (l : List Ins) : ∀ i, ∀ p ∈ kps l i, p < i
  | 0, p, hp => by simp [kps] at hp
  | i + 1, p, hp => kst_lt (kps_lt l i) p hp
theorem kst_len (l : List Ins) (k : List Nat) (i : Nat) : (kst l k i).length ≤ k.length + 1 := by
  unfold kst
  split
  · split <;> simp <;> omega
  · simp
theorem kps_len (l : List Ins) : ∀ i, (kps l i).length ≤ i
  | 0 => by simp [kps]
  | i + 1 => by have := kst_len l (kps l i) i; have := kps_len l i; unfold kps; omega
def st36 (l : List Ins) (i : Nat) (k g : List Nat) : PS := ⟨⟨39, [(9, .int .i64 ((i : Nat) : Int)), (3, .sl 0 1 0 (List.length k)), (0, code l), (7, code l), (8, .int .i64 (l.length : Int))]⟩, [⟨1, List.map ni (k ++ g), 0⟩]⟩
def st36z (l : List Ins) (i : Nat) : PS := ⟨⟨39, [(9, .int .i64 ((i : Nat) : Int)), (3, .nils), (0, code l), (7, code l), (8, .int .i64 (l.length : Int))]⟩, []⟩
theorem app36 (k g : List Nat) (x : Ins) (i : Nat) (hk : k.length ≤ 1000000) : pappend Tryd.prog [⟨1, List.map ni (k ++ g), 0⟩, ⟨5, Ins.cs x, 0⟩, ⟨1, [ni i], 0⟩] 3 39 39 (.sl 0 1 0 k.length) (.sl 2 1 0 1) = some (.sl 3 1 0 (List.length (k ++ [i])), [⟨1, List.map ni (k ++ g), 2⟩, ⟨5, Ins.cs x, 0⟩, ⟨1, [ni i], 0⟩, ⟨1, List.map ni (k ++ [i]), 0⟩]) := by
  have := pappend_one (P := Tryd.prog) (hp := [⟨1, List.map ni (k ++ g), 0⟩, ⟨5, Ins.cs x, 0⟩, ⟨1, [ni i], 0⟩]) (T := 39) (X := 39) (id := 0) (j := 2) (len := k.length) Tryd.underlying39 Tryd.underlying39 sz3 z3 rfl (by decide) rfl rfl rfl rfl (by simp) (bytes_ok by3 (by omega))
  refine Eq.trans this ?_
  simp [List.take_append_of_le_length]
theorem lp36 (l : List Ins) (hw : WF l) (hn : l.length ≤ 1000000) (h : List PV → Option PV) (hT : TabOk Tryd.prog X.G [(12, h)]) (hc : ∀ x y : Ins, By x → h [x.pv, y.pv] = some (.bool (can x y))) :
    ∀ r i g, i + r = l.length → 0 < i → ∃ g', LoopOk Tryd.prog X.G 0 (lpB Tryd.f36 3) (st36 l i (kps l i) g) (.exit 0) ⟨⟨39, [(3, .sl 0 1 0 (List.length (kps l l.length)))]⟩, [⟨1, List.map ni (kps l l.length ++ g'), 0⟩]⟩ := by
  intro r
  induction r with
  | zero =>
    intro i g hi h0
    obtain rfl : i = l.length := by omega
    refine ⟨g, round_ok env.mixed (tab_orc hT tn') (by kernel_rfl) (r36b h l l.length 0 (kps l l.length) g [] [] ⟨0, 0, 0, 0, 0⟩ ⟨0, 0, 0, 0, 0⟩ 0 false) ?_⟩
    simp only [Holds, Pv.Next]
    exact ⟨fun h => absurd h (by simp), fun _ => ⟨trivial, ⟨trivial, trivial, ⟨VW.sl rfl rfl rfl rfl, trivial⟩, ⟨BW.flat rfl (fun c hc => nb_ni hc), trivial⟩⟩, trivial, trivial⟩⟩
  | succ r ih =>
    intro i g hi h0
    obtain ⟨x, hx⟩ : ∃ x, l[i]? = some x := ⟨_, List.getElem?_eq_getElem (by omega)⟩
    have hs := wsucc (i := i) (by omega)
    have hkl := kps_len l i
    have px := px_code hx
    generalize hk : kps l i = k at *
    have hlt : ∀ p ∈ k, p < i := by rw [← hk]; exact kps_lt l i
    have hnext : kps l (i + 1) = kst l k i := by show kst l (kps l i) i = _; rw [hk]
    have gx : l.getD i ⟨0, 0, 0, 0, 0⟩ = x := by rw [List.getD_eq_getElem?_getD, hx]; rfl
    have ap := app36 k g x i (by omega)
    rcases List.eq_nil_or_concat k with rfl | ⟨k0, p, hkp⟩
    · obtain ⟨g', hg⟩ := ih (i + 1) [] (by omega) (by omega)
      refine ⟨g', round_ok env.mixed (tab_orc hT tn') (by kernel_rfl) (r36b h l i 0 [] g [] [] x x 0 false) ?_⟩
      simp only [Holds, Pv.Next]
      refine ⟨fun _ => ⟨congrArg (Option.map fun v => (v, _)) px, fun h => absurd h (by decide), fun _ => ⟨ap, ⟨trivial, trivial, ⟨VW.int hs, VW.sl rfl rfl rfl rfl, VW.lst rfl rfl, VW.lst rfl rfl, VW.int rfl, trivial⟩, ⟨BW.flat (by simp) (fun c hc => nb_ni hc), trivial⟩⟩, ?_⟩⟩, fun h => absurd h (by simp; omega)⟩
      rw [hnext] at hg
      exact hg
    · rw [List.concat_eq_append] at hkp
      subst hkp
      have hp : p < i := hlt p (by simp)
      obtain ⟨y, hy⟩ : ∃ y, l[p]? = some y := ⟨_, List.getElem?_eq_getElem (by omega)⟩
      have gy : l.getD p ⟨0, 0, 0, 0, 0⟩ = y := by rw [List.getD_eq_getElem?_getD, hy]; rfl
      have hst : kst l (k0 ++ [p]) i = if can y x = true then k0 else k0 ++ [p] ++ [i] := by
        unfold kst
        rw [List.getLast?_append]
        simp [hx, hy]
      have hlen : (k0 ++ [p]).length = k0.length + 1 := by simp
      have hsub := sub_i64 (n := (k0 ++ [p]).length) (by omega) (by omega)
      have hq : (k0 ++ [p]).length - 1 = k0.length := by omega
      rw [hq] at hsub
      have e23 := pidx_sl (P := Tryd.prog) (T := 39) (E := 3) (id := 0) (sz := 1) (off := 0) (len := (k0 ++ [p]).length) (j := k0.length) (k := .i64) Tryd.underlying39 sz3 (by omega)
      rw [show 0 * 1 + k0.length * 1 = k0.length by omega] at e23
      have e24 := pload_at (P := Tryd.prog) (T := 3) (id := 0) (q := k0.length) (hp := [⟨1, List.map ni (k0 ++ [p] ++ g), 0⟩, ⟨5, Ins.cs x, 0⟩]) (c := ni p) rfl (by simp) sz3 a3 (by simp)
      have e25 := px_code hy
      have hcy : By y := hw y (List.mem_of_getElem? hy)
      have e28 : (tab X.sh [(12, h)] []).iso 12 [y.pv, x.pv] = some (.bool (can y x)) := hc y x hcy
      by_cases hcan : can y x = true
      · obtain ⟨g', hg⟩ := ih (i + 1) ([p] ++ g) (by omega) (by omega)
        refine ⟨g', round_ok env.mixed (tab_orc hT tn') (by kernel_rfl) (r36b h l i k0.length (k0 ++ [p]) g k0 ([p] ++ g) x y p true) ?_⟩
        simp only [Holds, Pv.Next]
        refine ⟨fun _ => ⟨congrArg (Option.map fun v => (v, _)) px, fun _ => ⟨?_, congrArg (Option.map fun v => (v, _)) e24, congrArg (Option.map fun v => (v, _)) e25, fun _ => ⟨by rw [hcan] at e28; exact pcallD_iso rfl rfl e28, ?_, ⟨trivial, trivial, ⟨VW.int hs, VW.sl rfl rfl rfl rfl, VW.lst rfl rfl, VW.lst rfl rfl, VW.int rfl, trivial⟩, ⟨BW.flat (by simp) (fun c hc => nb_ni hc), trivial⟩⟩, ?_⟩, fun h => absurd h (by decide)⟩, fun h => ?_⟩, fun h => absurd h (by simp; omega)⟩
        · rw [hsub]; exact congrArg (Option.map fun v => (v, _)) e23
        · rw [hsub]
          have : pslice Tryd.prog 39 (.sl 0 1 0 (k0 ++ [p]).length) none (some (I (k0.length : Int))) none = some (.sl 0 1 0 k0.length) := by
            unfold pslice
            rw [Tryd.underlying39]
            simp only [bnd, I]
            rw [if_pos (by omega)]
            simp only [Int.toNat_natCast]
            rw [if_pos ⟨by omega, by omega, sz3, .inl trivial⟩]
            simp
          exact congrArg (Option.map fun v => (v, _)) this
        · rw [hnext, hst, if_pos hcan] at hg
          exact hg
        · rw [hsub] at h; simp at h
      · have hcf : can y x = false := by simpa using hcan
        obtain ⟨g', hg⟩ := ih (i + 1) [] (by omega) (by omega)
        refine ⟨g', round_ok env.mixed (tab_orc hT tn') (by kernel_rfl) (r36b h l i k0.length (k0 ++ [p]) g [] [] x y p false) ?_⟩
        simp only [Holds, Pv.Next]
        refine ⟨fun _ => ⟨congrArg (Option.map fun v => (v, _)) px, fun _ => ⟨?_, congrArg (Option.map fun v => (v, _)) e24, congrArg (Option.map fun v => (v, _)) e25, fun h => absurd h (by decide), fun _ => ⟨by rw [hcf] at e28; exact pcallD_iso rfl rfl e28, ap, ⟨trivial, trivial, ⟨VW.int hs, VW.sl rfl rfl rfl rfl, VW.lst rfl rfl, VW.lst rfl rfl, VW.int rfl, trivial⟩, ⟨BW.flat (by simp) (fun c hc => nb_ni hc), trivial⟩⟩, ?_⟩⟩, fun h => ?_⟩, fun h => absurd h (by simp; omega)⟩
        · rw [hsub]; exact congrArg (Option.map fun v => (v, _)) e23
        · rw [hnext, hst, if_neg hcan] at hg
          exact hg
        · rw [hsub] at h; simp at h
theorem ok36 (l : List Ins) (hw : WF l) (hn : l.length ≤ 1000000) : Ok Tryd.prog X.G 36 [code l] (.lst 1 ((kps l l.length).map ni)) := by
  obtain ⟨h, e12, o12⟩ := ent_ex (fun p : Ins × Ins => By p.1) (fun p : Ins × Ins => ([p.1.pv, p.2.pv], .bool (can p.1 p.2))) (fun a b h => by
    simp only [List.cons.injEq, and_true] at h
    rw [Ins.pv_inj h.1, Ins.pv_inj h.2])
  have hT : TabOk Tryd.prog X.G [(12, h)] := tk (fun l r e => by obtain ⟨a, ha, rfl, rfl⟩ := o12 l r e; exact ok12 a.1 a.2 ha) tn
  have hc : ∀ x y : Ins, By x → h [x.pv, y.pv] = some (.bool (can x y)) := fun x y hx => e12 (x, y) hx
  cases l with
  | nil =>
    refine wok env (tab_orc hT tn') fd36 (t36a h []) ?_
    simp only [Holds]
    refine ⟨⟨trivial, trivial, ⟨VW.int rfl, VW.nils, VW.lst rfl rfl, VW.lst rfl rfl, VW.int rfl, trivial⟩, trivial⟩, ?_, ⟨_, _, rfl, Sub.nils 1⟩⟩
    refine round_ok env.mixed (tab_orc hT tn') (by kernel_rfl) (r36a h [] 0 ⟨0, 0, 0, 0, 0⟩) ?_
    simp only [Holds, Pv.Next]
    exact ⟨fun h => absurd h (by simp), fun _ => ⟨trivial, ⟨trivial, trivial, ⟨VW.nils, trivial⟩, trivial⟩, trivial, trivial⟩⟩
  | cons x l =>
    obtain ⟨g', hg⟩ := lp36 (x :: l) hw hn h hT hc l.length 1 [] (by simp; omega) (by omega)
    refine wok env (tab_orc hT tn') fd36 (t36b h (x :: l) (kps (x :: l) (x :: l).length) g') ?_
    simp only [Holds]
    refine ⟨⟨trivial, trivial, ⟨VW.int rfl, VW.nils, VW.lst rfl rfl, VW.lst rfl rfl, VW.int (by rw [List.length_map]), trivial⟩, trivial⟩, ?_, ?_⟩
    · refine round_ok env.mixed (tab_orc hT tn') (by kernel_rfl) (r36a h (x :: l) 0 x) ?_
      simp only [Holds, Pv.Next]
      refine ⟨fun _ => ⟨congrArg (Option.map fun v => (v, _)) (px_code (l := x :: l) (i := 0) rfl), ⟨trivial, trivial, ⟨VW.int (wsucc (by omega)), VW.sl rfl rfl rfl rfl, VW.lst rfl rfl, VW.lst rfl rfl, VW.int rfl, trivial⟩, ⟨BW.flat rfl (fun c hc => nb_ni (l := [0]) hc), trivial⟩⟩, hg⟩, fun h => absurd h (by simp)⟩
    · exact ⟨_, _, Fz.pre (fun _ => rfl) (fun _ _ _ => rfl) rfl, Sub.refl _⟩
def lbl (l : List Ins) (p : Nat) : Ins × Int := (l.getD p ⟨0, 0, 0, 0, 0⟩, if tb (l.getD p ⟨0, 0, 0, 0, 0⟩).k = true then (p : Int) else -1)
theorem inI_tb (x : Ins) : tb (inI x).k = tb x.k := by
  show tb (invO x.k) = tb x.k
  unfold tb
  rw [inv_tg]
theorem lc_lbl (l : List Ins) (p q : Nat) : lc (lbl l p) (lbl l q) = can (l.getD p ⟨0, 0, 0, 0, 0⟩) (l.getD q ⟨0, 0, 0, 0, 0⟩) := by
  unfold lc lbl
  by_cases h : can (l.getD p ⟨0, 0, 0, 0, 0⟩) (l.getD q ⟨0, 0, 0, 0, 0⟩) = true
  · have h2 := can_iff.1 h
    have h3 : tb (l.getD q ⟨0, 0, 0, 0, 0⟩).k = false := by rw [h2.2.2.2.2.2, inI_tb]; exact h2.1
    simp only [h2.1, h3]
    simp
  · have h' : can (l.getD p ⟨0, 0, 0, 0, 0⟩) (l.getD q ⟨0, 0, 0, 0, 0⟩) = false := by simpa using h
    simp only [h', Bool.false_and]
theorem kst_psh (l : List Ins) (k : List Nat) (i : Nat) : psh lc (k.map (lbl l)).reverse (lbl l i) = ((kst l k i).map (lbl l)).reverse := by
  rcases List.eq_nil_or_concat k with rfl | ⟨k0, p, rfl⟩
  · rfl
  · unfold kst
    rw [List.concat_eq_append, List.getLast?_append]
    simp only [List.getLast?_singleton, Option.some_or, List.map_append, List.map_cons, List.map_nil, List.reverse_append, List.reverse_cons, List.reverse_nil, List.nil_append, List.singleton_append, psh]
    rw [lc_lbl]
    by_cases h : can (l.getD p ⟨0, 0, 0, 0, 0⟩) (l.getD i ⟨0, 0, 0, 0, 0⟩) = true
    · rw [if_pos h, if_pos h]; simp
    · rw [if_neg h, if_neg h]; simp
theorem lw_lbl (l : List Ins) {i : Nat} (hi : i < l.length) : (lw l)[i]? = some (lbl l i) := by
  rw [lw_at, List.getElem?_eq_getElem hi]
  unfold lbl
  rw [List.getD_eq_getElem?_getD, List.getElem?_eq_getElem hi]
  rfl
theorem kps_run (l : List Ins) : ∀ i, i ≤ l.length → ((lw l).take i).foldl (psh lc) [] = ((kps l i).map (lbl l)).reverse
  | 0, _ => by simp [kps]
  | i + 1, h => by
    rw [List.take_add_one, lw_lbl l (by omega), List.foldl_append, kps_run l i (by omega)]
    exact kst_psh l (kps l i) i
theorem kps_red (l : List Ins) : (kps l l.length).map (lbl l) = red lc (lw l) := by
  have := kps_run l l.length (Nat.le_refl _)
  rw [List.take_of_length_le (by rw [lw_len]; omega)] at this
  unfold red
  rw [this, List.reverse_reverse]
theorem kst_pw {l : List Ins} {k : List Nat} {i : Nat} (h : ∀ p ∈ k, p < i) (hp : k.Pairwise (· < ·)) : (kst l k i).Pairwise (· < ·) := by
  unfold kst
  split
  · split
    · exact hp.sublist (List.dropLast_sublist k)
    · exact List.pairwise_append.2 ⟨hp, by simp, fun a ha b hb => by simp at hb; subst hb; exact h a ha⟩
  · simp
theorem kps_pw (l : List Ins) : ∀ i, (kps l i).Pairwise (· < ·)
  | 0 => List.Pairwise.nil
  | i + 1 => kst_pw (kps_lt l i) (kps_pw l i)
theorem pw_inj {k : List Nat} (h : k.Pairwise (· < ·)) {i j p : Nat} (hi : k[i]? = some p) (hj : k[j]? = some p) : i = j := by
  obtain ⟨a, ha⟩ := List.getElem?_eq_some_iff.1 hi
  obtain ⟨b, hb⟩ := List.getElem?_eq_some_iff.1 hj
  have hw := List.pairwise_iff_getElem.1 h
  rcases Nat.lt_trichotomy i j with c | c | c
  · have := hw i j a b c; omega
  · exact c
  · have := hw j i b a c; omega
/-- the index after i rounds -/
def ixs (k : List Nat) (n : Nat) : Nat → List Int
  | 0 => List.replicate n 0
  | i + 1 => (ixs k n i).set (k.getD i 0) (i : Int)
theorem ixs_len (k : List Nat) (n : Nat) : ∀ i, (ixs k n i).length = n
  | 0 => by simp [ixs]
  | i + 1 => by unfold ixs; rw [List.length_set]; exact ixs_len k n i
theorem ixs_at {k : List Nat} {n : Nat} (h : k.Pairwise (· < ·)) (hl : ∀ p ∈ k, p < n) : ∀ i, i ≤ k.length → ∀ j p, j < i → k[j]? = some p → (ixs k n i)[p]? = some (j : Int)
  | 0, _, j, p, hj, _ => by omega
  | i + 1, hi, j, p, hj, hp => by
    obtain ⟨q, hq⟩ : ∃ q, k[i]? = some q := ⟨_, List.getElem?_eq_getElem (by omega)⟩
    have hpn := hl p (List.mem_of_getElem? hp)
    unfold ixs
    rw [List.getD_eq_getElem?_getD, hq]
    show ((ixs k n i).set q (i : Int))[p]? = _
    rw [List.getElem?_set]
    by_cases e : j = i
    · subst e
      rw [hq] at hp
      obtain rfl := Option.some.inj hp
      rw [if_pos rfl, if_pos (by rw [ixs_len]; exact hpn)]
    · have hne : q ≠ p := fun c => e (pw_inj h hp (c ▸ hq))
      rw [if_neg hne]
      exact ixs_at h hl i (by omega) j p (by omega) hp
/-- a list filled from the left -/
def fil (o : List Ins) (i : Nat) : List Ins := o.take i ++ List.replicate (o.length - i) ⟨0, 0, 0, 0, 0⟩
theorem fil_zero (o : List Ins) : fil o 0 = List.replicate o.length ⟨0, 0, 0, 0, 0⟩ := by simp [fil]
theorem fil_all (o : List Ins) : fil o o.length = o := by simp [fil]
theorem fil_len (o : List Ins) (i : Nat) (h : i ≤ o.length) : (fil o i).length = o.length := by simp [fil]; omega
theorem fil_set {o : List Ins} {i : Nat} {y : Ins} (h : o[i]? = some y) : (fil o i).set i y = fil o (i + 1) := by
  have hi := (List.getElem?_eq_some_iff.1 h).1
  have e : o.length - i = (o.length - (i + 1)) + 1 := by omega
  unfold fil
  rw [e, List.replicate_succ, List.set_append_right _ _ (by simp; omega)]
  rw [List.length_take, Nat.min_eq_left (by omega), Nat.sub_self, List.set_cons_zero, List.take_add_one, h]
  simp
/-- what is written at a place -/
theorem opt_at {l : List Ins} (hd : Wd l) (hf : WF l) (hn : l.length ≤ 65536) {i p : Nat} {x : Ins} (hi : (kps l l.length)[i]? = some p) (hx : l[p]? = some x) :
    (opt l)[i]? = some (rtI x (pos (red lc (lw l)) (tgt x))) ∧ (tb x.k = true → ∃ t : Nat, tgt x = t ∧ (ixs (kps l l.length) l.length (kps l l.length).length)[t]? = some ((pos (red lc (lw l)) (tgt x) : Nat) : Int)) := by
  have hr := kps_red l
  have hl : lbl l p = (x, if tb x.k = true then (p : Int) else -1) := by
    unfold lbl; rw [List.getD_eq_getElem?_getD, hx]; rfl
  have hw : (red lc (lw l))[i]? = some (lbl l p) := by rw [← hr, List.getElem?_map, hi]; rfl
  have hcw := (red_all hd hf hn).1
  refine ⟨?_, fun ht => ?_⟩
  · unfold opt
    rw [outp_at hw, hl]
  · have hm : lbl l p ∈ red lc (lw l) := List.mem_of_getElem? hw
    have h2 := hcw.tin _ hm (by rw [hl]; exact ht)
    rw [hl] at h2
    obtain ⟨h0, q, hq, e⟩ := h2
    have hlt : pos (red lc (lw l)) (tgt x) < (red lc (lw l)).length := List.findIdx_lt_length_of_exists ⟨q, hq, by simpa using e⟩
    have hg := List.findIdx_getElem (w := hlt)
    have hlen : (red lc (lw l)).length = (kps l l.length).length := by rw [← hr, List.length_map]
    obtain ⟨j, hj⟩ : ∃ j, pos (red lc (lw l)) (tgt x) = j := ⟨_, rfl⟩
    have hj' : (red lc (lw l)).findIdx (fun p => p.2 == tgt x) = j := hj
    have hlt' : j < (kps l l.length).length := by rw [← hlen, ← hj]; exact hlt
    obtain ⟨r, hk⟩ : ∃ r, (kps l l.length)[j]? = some r := ⟨_, List.getElem?_eq_getElem hlt'⟩
    have hwj : (red lc (lw l))[j]? = some (lbl l r) := by rw [← hr, List.getElem?_map, hk]; rfl
    have hg2 : (lbl l r).2 = tgt x := by
      have h3 : (red lc (lw l))[(red lc (lw l)).findIdx (fun p => p.2 == tgt x)]? = some (lbl l r) := by rw [hj']; exact hwj
      have h4 := Option.some.inj ((List.getElem?_eq_getElem hlt).symm.trans h3)
      have h5 : ((red lc (lw l))[(red lc (lw l)).findIdx (fun p => p.2 == tgt x)]'hlt).2 = tgt x := by simpa using hg
      rw [← h4]; exact h5
    have hr' : ((r : Nat) : Int) = tgt x := by
      unfold lbl at hg2
      simp only at hg2
      split at hg2
      · exact hg2
      · exact absurd (show (0 : Int) ≤ tgt x from h0) (by omega)
    refine ⟨r, hr'.symm, ?_⟩
    rw [hj]
    exact ixs_at (kps_pw l l.length) (fun p hp => kps_lt l l.length p hp) _ (Nat.le_refl _) j r (by omega) hk
theorem nb_I {c : PV} {l : List Int} (h : c ∈ l.map I) : NB c := by obtain ⟨a, _, rfl⟩ := List.mem_map.1 h; exact NB.int _ _
theorem nb_z : ∀ c ∈ ([PV.nils, I 0, I 0] : List PV), NB c := by
  intro c hc
  simp only [List.mem_cons, List.not_mem_nil, or_false] at hc
  rcases hc with rfl | rfl | rfl
  · exact NB.nils
  · exact NB.int _ _
  · exact NB.int _ _
theorem nb_cs {c : PV} {l : List Ins} (h : c ∈ l.flatMap Ins.cs) : NB c := by
  obtain ⟨x, _, hx⟩ := List.mem_flatMap.1 h
  simp only [Ins.cs, List.mem_cons, List.not_mem_nil, or_false] at hx
  rcases hx with rfl | rfl | rfl | rfl | rfl <;> exact NB.int _ _
theorem lpA (l : List Ins) (m s : Int) (h29 h36 h27 h28 : List PV → Option PV) (hT : TabOk Tryd.prog X.G [(29, h29), (36, h36), (27, h27), (28, h28)]) (hn : l.length ≤ 300) (k : List Nat) (hk : ∀ p ∈ k, p < l.length) (hkl : k.length ≤ l.length) :
    ∀ r i, i + r = k.length → LoopOk Tryd.prog X.G 0 (lpB Tryd.f16 7) ⟨⟨89, [(33, .int .i64 ((i : Nat) : Int)), (7, .sl 2 1 0 (List.length l)), (31, .lst 1 (List.map ni k)), (1, .ptr 0 0), (2, .ptr 1 0), (6, .lst 1 (List.map ni k)), (32, .int .i64 (k.length : Int))]⟩, [⟨3, [code l, .int .i64 m, .int .i64 s], 0⟩, ⟨3, [.nils, .int .i64 0, .int .i64 0], 0⟩, ⟨1, List.map I (ixs k l.length i), 0⟩]⟩ (.exit 0) ⟨⟨89, [(7, .sl 2 1 0 (List.length l)), (1, .ptr 0 0), (2, .ptr 1 0), (6, .lst 1 (List.map ni k))]⟩, [⟨3, [code l, .int .i64 m, .int .i64 s], 0⟩, ⟨3, [.nils, .int .i64 0, .int .i64 0], 0⟩, ⟨1, List.map I (ixs k l.length k.length), 0⟩]⟩ := by
  intro r
  induction r with
  | zero =>
    intro i hi
    obtain rfl : i = k.length := by omega
    refine round_ok env.mixed (tab_orc hT tn') (by kernel_rfl) (r16a h29 h36 h27 h28 l k (ixs k l.length k.length) [] m s k.length 0 0) ?_
    simp only [Holds, Pv.Next]
    exact ⟨fun h => absurd h (by simp), fun _ => ⟨trivial, ⟨trivial, trivial, ⟨VW.sl rfl rfl rfl rfl, VW.ptr rfl rfl, VW.ptr rfl rfl, VW.lst rfl rfl, trivial⟩, ⟨BW.cells (.cons (VW.lst rfl rfl) (.cons (VW.int rfl) (.cons (VW.int rfl) .nil))), BW.flat rfl nb_z, BW.flat rfl (fun c hc => nb_I hc), trivial⟩⟩, trivial, rfl⟩⟩
  | succ r ih =>
    intro i hi
    obtain ⟨p, hp⟩ : ∃ p, k[i]? = some p := ⟨_, List.getElem?_eq_getElem (by omega)⟩
    refine round_ok env.mixed (tab_orc hT tn') (by kernel_rfl) (r16a h29 h36 h27 h28 l k (ixs k l.length i) (ixs k l.length (i + 1)) m s i p p) ?_
    simp only [Holds, Pv.Next]
    have hpl := hk p (List.mem_of_getElem? hp)
    have hil : i < k.length := by omega
    have e1 := pidx_lst (P := Tryd.prog) (T := 39) (E := 3) (sz := 1) (pv := ni) (c := [ni p]) (l := k) (x := p) (j := i) (k := .i64) Tryd.underlying39 sz3 hp rfl
    have e2 := pidx_sl (P := Tryd.prog) (T := 39) (E := 3) (id := 2) (sz := 1) (off := 0) (len := l.length) (j := p) (k := .i64) Tryd.underlying39 sz3 hpl
    rw [show 0 * 1 + p * 1 = p by omega] at e2
    have e3 := pstore_at (P := Tryd.prog) (hp := [⟨3, [code l, I m, I s], 0⟩, ⟨3, [PV.nils, I 0, I 0], 0⟩, ⟨1, List.map I (ixs k l.length i), 0⟩]) (T := 3) (id := 2) (q := p) (n := 1) (sz := 1) (x := I (i : Int)) (xs := [I (i : Int)]) rfl sz3 rfl rfl (by rw [List.length_map, ixs_len]; omega) rfl
    have e4 : (ixs k l.length i).set p (i : Int) = ixs k l.length (i + 1) := by
      show _ = (ixs k l.length i).set (k.getD i 0) (i : Int)
      rw [List.getD_eq_getElem?_getD, hp]; rfl
    have e5 := map_set (f := I) (ixs k l.length i) p (i : Int) (by rw [ixs_len]; exact hpl)
    rw [e5, e4] at e3
    exact ⟨fun _ => ⟨congrArg (Option.map fun v => (v, _)) e1, congrArg (Option.map fun v => (v, _)) e2, congrArg (Option.map fun v => (PV.tup [], v)) e3, ⟨trivial, trivial, ⟨VW.int (wsucc (by omega)), VW.sl rfl rfl rfl rfl, VW.lst rfl rfl, VW.ptr rfl rfl, VW.ptr rfl rfl, VW.lst rfl rfl, VW.int rfl, trivial⟩, ⟨BW.cells (.cons (VW.lst rfl rfl) (.cons (VW.int rfl) (.cons (VW.int rfl) .nil))), BW.flat rfl nb_z, BW.flat rfl (fun c hc => nb_I hc), trivial⟩⟩, ih (i + 1) (by omega)⟩, fun h => absurd h (by simp; omega)⟩
theorem lpB16 (l : List Ins) (m s : Int) (h29 h36 h27 h28 : List PV → Option PV) (hT : TabOk Tryd.prog X.G [(29, h29), (36, h36), (27, h27), (28, h28)]) (hw : WF l) (hn : l.length ≤ 300) (k : List Nat) (ix : List Int) (o : List Ins) (hix : ix.length = l.length) (hol : o.length = k.length) (hkl : k.length ≤ l.length)
    (e27 : ∀ x : Ins, By x → h27 [x.pv] = some (.tup [.int .i64 (tgt x), .bool (tb x.k)])) (e28 : ∀ (x : Ins) (j : Int), By x → h28 [x.pv, .int .i64 j] = some (rtI x j).pv)
    (hk : ∀ (i p : Nat), k[i]? = some p → ∃ (x : Ins) (j : Int), l[p]? = some x ∧ o[i]? = some (rtI x j) ∧ (tb x.k = true → ∃ t : Nat, tgt x = t ∧ ix[t]? = some j)) :
    ∀ r i, i + r = k.length → LoopOk Tryd.prog X.G 0 (lpB Tryd.f16 13) ⟨⟨89, [(48, .int .i64 ((i : Nat) : Int)), (7, .sl 2 1 0 (List.length l)), (10, .sl 3 5 0 (List.length k)), (1, .ptr 0 0), (46, .lst 1 (List.map ni k)), (2, .ptr 1 0), (47, .int .i64 (k.length : Int))]⟩, [⟨3, [code l, .int .i64 m, .int .i64 s], 0⟩, ⟨3, [.nils, .int .i64 0, .int .i64 0], 0⟩, ⟨1, List.map I ix, 0⟩, ⟨5, List.flatMap Ins.cs (fil o i), 0⟩]⟩ (.exit 2) ⟨⟨89, [(10, .sl 3 5 0 (List.length k)), (1, .ptr 0 0), (2, .ptr 1 0)]⟩, [⟨3, [code l, .int .i64 m, .int .i64 s], 0⟩, ⟨3, [.nils, .int .i64 0, .int .i64 0], 0⟩, ⟨1, List.map I ix, 0⟩, ⟨5, List.flatMap Ins.cs o, 0⟩]⟩ := by
  intro r
  induction r with
  | zero =>
    intro i hi
    obtain rfl : i = k.length := by omega
    have hfo : fil o k.length = o := by rw [← hol]; exact fil_all o
    rw [hfo]
    refine round_ok env.mixed (tab_orc hT tn') (by kernel_rfl) (r16b h29 h36 h27 h28 l o [] [] k ix m s 0 0 k.length 0 0 0 ⟨0, 0, 0, 0, 0⟩ ⟨0, 0, 0, 0, 0⟩ false) ?_
    simp only [Holds, Pv.Next]
    refine ⟨fun h => absurd h (by simp), fun _ => ?_⟩
    exact ⟨trivial, ⟨trivial, trivial, ⟨VW.sl rfl rfl rfl rfl, VW.ptr rfl rfl, VW.ptr rfl rfl, trivial⟩, ⟨BW.cells (.cons (VW.lst rfl rfl) (.cons (VW.int rfl) (.cons (VW.int rfl) .nil))), BW.flat rfl nb_z, BW.flat rfl (fun c hc => nb_I hc), BW.flat rfl (fun c hc => nb_cs hc), trivial⟩⟩, trivial, rfl⟩
  | succ r ih =>
    intro i hi
    obtain ⟨p, hp⟩ : ∃ p, k[i]? = some p := ⟨_, List.getElem?_eq_getElem (by omega)⟩
    obtain ⟨x, j, hx, ho, hj⟩ := hk i p hp
    have hx' : By x := hw x (List.mem_of_getElem? hx)
    have hil : i < k.length := by omega
    have hpl : p < l.length := (List.getElem?_eq_some_iff.1 hx).1
    have hfl : i < (fil o i).length := by rw [fil_len o i (by omega)]; omega
    have e1 := pidx_lst (P := Tryd.prog) (T := 39) (E := 3) (sz := 1) (pv := ni) (c := [ni p]) (l := k) (x := p) (j := i) (k := .i64) Tryd.underlying39 sz3 hp rfl
    have e2 := px_code hx
    have e3 := pidx_sl (P := Tryd.prog) (T := 28) (E := 23) (id := 3) (sz := 5) (off := 0) (len := k.length) (j := i) (k := .i64) Tryd.underlying28 sz23 hil
    rw [show 0 * 5 + i * 5 = i * 5 by omega] at e3
    have hcs : ∀ a : Ins, (Ins.cs a).length = 5 := fun _ => rfl
    have st : ∀ (c : List Ins) (y : Ins), i < c.length → pstore Tryd.prog [⟨3, [code l, I m, I s], 0⟩, ⟨3, [PV.nils, I 0, I 0], 0⟩, ⟨1, List.map I ix, 0⟩, ⟨5, List.flatMap Ins.cs c, 0⟩] 23 (.ptr 3 (i * 5)) (.agg y.cs) = some [⟨3, [code l, I m, I s], 0⟩, ⟨3, [PV.nils, I 0, I 0], 0⟩, ⟨1, List.map I ix, 0⟩, ⟨5, List.flatMap Ins.cs (c.set i y), 0⟩] := fun c y hc => by
      have := pstore_at (P := Tryd.prog) (hp := [⟨3, [code l, I m, I s], 0⟩, ⟨3, [PV.nils, I 0, I 0], 0⟩, ⟨1, List.map I ix, 0⟩, ⟨5, List.flatMap Ins.cs c, 0⟩]) (T := 23) (id := 3) (q := i * 5) (n := 5) (sz := 5) (x := .agg y.cs) (xs := y.cs) rfl sz23 rfl rfl (flat_in hcs hc) rfl
      rw [flat_set hcs c i y hc] at this
      exact this
    have ld : pload Tryd.prog [⟨3, [code l, I m, I s], 0⟩, ⟨3, [PV.nils, I 0, I 0], 0⟩, ⟨1, List.map I ix, 0⟩, ⟨5, List.flatMap Ins.cs ((fil o i).set i x), 0⟩] 23 (.ptr 3 (i * 5)) = some (.agg x.cs) :=
      pload_agg (P := Tryd.prog) (T := 23) (id := 3) (q := i * 5) (n := 5) (bx := ⟨5, List.flatMap Ins.cs ((fil o i).set i x), 0⟩) rfl (Nat.zero_le 1) sz23 a23 rfl (flat_get hcs _ i x (by rw [List.getElem?_set_self hfl]))
    have c27 : (tab X.sh [(29, h29), (36, h36), (27, h27), (28, h28)] []).iso 27 [x.pv] = some (.tup [.int .i64 (tgt x), .bool (tb x.k)]) := e27 x hx'
    have c28 : (tab X.sh [(29, h29), (36, h36), (27, h27), (28, h28)] []).iso 28 [x.pv, .int .i64 j] = some (rtI x j).pv := e28 x j hx'
    have s1 := st (fil o i) x hfl
    have fin : ∀ c : List Ins, c = fil o (i + 1) → BW (Pv.idx [0, 1, 2, 3]) [] ⟨5, List.flatMap Ins.cs c, 0⟩ ⟨5, List.flatMap Ins.cs (fil o (i + 1)), 0⟩ := fun c e => BW.flat (by rw [e]) (fun c hc => nb_cs hc)
    cases ht : tb x.k with
    | true =>
      obtain ⟨t, t1, t2⟩ := hj ht
      have htl : t < l.length := by rw [← hix]; exact (List.getElem?_eq_some_iff.1 t2).1
      have ho' : ((fil o i).set i x).set i (rtI x j) = fil o (i + 1) := by rw [List.set_set]; exact fil_set ho
      have s2 := st ((fil o i).set i x) (rtI x j) (by rw [List.length_set]; exact hfl)
      rw [ho'] at s2
      have e7 := pidx_sl (P := Tryd.prog) (T := 39) (E := 3) (id := 2) (sz := 1) (off := 0) (len := l.length) (j := t) (k := .i64) Tryd.underlying39 sz3 htl
      rw [show 0 * 1 + t * 1 = t by omega] at e7
      have e8 := pload_at (P := Tryd.prog) (T := 3) (id := 2) (q := t) (hp := [⟨3, [code l, I m, I s], 0⟩, ⟨3, [PV.nils, I 0, I 0], 0⟩, ⟨1, List.map I ix, 0⟩, ⟨5, List.flatMap Ins.cs ((fil o i).set i x), 0⟩]) (c := I j) rfl (by simp) sz3 a3 (by show (List.map I ix)[t]? = some (I j); rw [List.getElem?_map, t2]; rfl)
      rw [ht, t1] at c27
      refine round_ok env.mixed (tab_orc hT tn') (by kernel_rfl) (r16b h29 h36 h27 h28 l (fil o i) ((fil o i).set i x) (fil o (i + 1)) k ix m s t j i (i * 5) p t x (rtI x j) true) ?_
      simp only [Holds, Pv.Next]
      refine ⟨fun _ => ⟨congrArg (Option.map fun v => (v, _)) e1, congrArg (Option.map fun v => (v, _)) e2, congrArg (Option.map fun v => (v, _)) e3, congrArg (Option.map fun v => (PV.tup [], v)) s1, congrArg (Option.map fun v => (v, _)) e3, congrArg (Option.map fun v => (v, _)) ld, fun _ => ⟨pcallv_iso rfl rfl c27, congrArg (Option.map fun v => (v, _)) e3, congrArg (Option.map fun v => (v, _)) ld, congrArg (Option.map fun v => (v, _)) e7, congrArg (Option.map fun v => (v, _)) e8, pcallD_iso rfl rfl c28, congrArg (Option.map fun v => (v, _)) e3, congrArg (Option.map fun v => (PV.tup [], v)) s2, ⟨trivial, trivial, ⟨VW.int (wsucc (by omega)), VW.sl rfl rfl rfl rfl, VW.sl rfl rfl rfl rfl, VW.ptr rfl rfl, VW.lst rfl rfl, VW.ptr rfl rfl, VW.int rfl, trivial⟩, ⟨BW.cells (.cons (VW.lst rfl rfl) (.cons (VW.int rfl) (.cons (VW.int rfl) .nil))), BW.flat rfl nb_z, BW.flat rfl (fun c hc => nb_I hc), BW.flat rfl (fun c hc => nb_cs hc), trivial⟩⟩, ih (i + 1) (by omega)⟩, fun h => absurd h (by decide)⟩, fun h => absurd h (by simp; omega)⟩
    | false =>
      have ho' : (fil o i).set i x = fil o (i + 1) := fil_set (by rw [ho, rtI_no x j ht])
      rw [ho'] at s1 ld
      rw [ht] at c27
      refine round_ok env.mixed (tab_orc hT tn') (by kernel_rfl) (r16b h29 h36 h27 h28 l (fil o i) (fil o (i + 1)) [] k ix m s (tgt x) 0 i (i * 5) p 0 x x false) ?_
      simp only [Holds, Pv.Next]
      refine ⟨fun _ => ⟨congrArg (Option.map fun v => (v, _)) e1, congrArg (Option.map fun v => (v, _)) e2, congrArg (Option.map fun v => (v, _)) e3, congrArg (Option.map fun v => (PV.tup [], v)) s1, congrArg (Option.map fun v => (v, _)) e3, congrArg (Option.map fun v => (v, _)) ld, fun h => absurd h (by decide), fun _ => ⟨pcallv_iso rfl rfl c27, ⟨trivial, trivial, ⟨VW.int (wsucc (by omega)), VW.sl rfl rfl rfl rfl, VW.sl rfl rfl rfl rfl, VW.ptr rfl rfl, VW.lst rfl rfl, VW.ptr rfl rfl, VW.int rfl, trivial⟩, ⟨BW.cells (.cons (VW.lst rfl rfl) (.cons (VW.int rfl) (.cons (VW.int rfl) .nil))), BW.flat rfl nb_z, BW.flat rfl (fun c hc => nb_I hc), BW.flat rfl (fun c hc => nb_cs hc), trivial⟩⟩, ih (i + 1) (by omega)⟩⟩, fun h => absurd h (by simp; omega)⟩
theorem fz_tup {d : Nat} {hp hp' : List Pv.Box} {cs l : List PV} (h : fzL (fz d) hp cs = some (l, hp')) : fz (d + 1) hp (.tup cs) = some (.tup l, hp') := by simp only [fz, h]
theorem fz_agg {d : Nat} {hp hp' : List Pv.Box} {cs l : List PV} (h : fzL (fz d) hp cs = some (l, hp')) : fz (d + 1) hp (.agg cs) = some (.agg l, hp') := by simp only [fz, h]
theorem fzL_cons {f : List Pv.Box → PV → Option (PV × List Pv.Box)} {hp hp1 hp2 : List Pv.Box} {c c' : PV} {cs cs' : List PV} (h : f hp c = some (c', hp1)) (k : fzL f hp1 cs = some (cs', hp2)) : fzL f hp (c :: cs) = some (c' :: cs', hp2) := by simp only [fzL, h, k]
theorem fz_many {d : Nat} {hp : List Pv.Box} {id : Nat} {l : List Ins} (hb : hp[id]? = some ⟨5, l.flatMap Ins.cs, 0⟩) : fz (d + 2) hp (.sl id 5 0 l.length) = some (.lst 5 (l.map Ins.pv), hp.set id ⟨5, l.flatMap Ins.cs, 1⟩) := by
  have hs : ∀ a : Ins, a.cs.length = 5 := fun _ => rfl
  rw [show d + 2 = (d + 1) + 1 from rfl, fz_sl hb (by decide) (by rw [flatMap_len hs]; exact Nat.le_refl _) (fun c hc => by
    obtain ⟨x, _, hx⟩ := List.mem_flatMap.1 hc
    simp only [Ins.cs, List.mem_cons, List.not_mem_nil, or_false] at hx
    rcases hx with rfl | rfl | rfl | rfl | rfl <;> rfl), chunk_map (pv := Ins.pv) hs (fun _ => rfl)]
/-- a list of an image's fields -/
structure Im where
  l : List Ins
  m : Int
  s : Int
def Im.pv (x : Im) : PV := imgP x.l x.m x.s
def Im.ce (x : Im) : Int := ckE x.l x.m x.s
def Im.op (x : Im) : Im := if ckE x.l x.m x.s = 0 then ⟨opt x.l, x.m, x.s⟩ else ⟨[], 0, 0⟩
theorem imgP_inj {l l' : List Ins} {m s m' s' : Int} (h : imgP l m s = imgP l' m' s') : l = l' ∧ m = m' ∧ s = s' := by
  unfold imgP at h
  simp only [PV.agg.injEq, List.cons.injEq, PV.lst.injEq, PV.int.injEq, true_and, and_true] at h
  exact ⟨pv_inj h.1, h.2.1, h.2.2⟩
theorem Im.pv_inj {x y : Im} (h : x.pv = y.pv) : x = y := by
  obtain ⟨a, b, c⟩ := x; obtain ⟨a', b', c'⟩ := y
  obtain ⟨rfl, rfl, rfl⟩ := imgP_inj h
  rfl
def Sm (x : Im) : Prop := WF x.l ∧ x.l.length ≤ 300
theorem ok16 (x : Im) (hx : Sm x) : Ok Tryd.prog X.G 16 [x.pv] (.tup [x.op.pv, .int .i64 x.ce]) := by
  obtain ⟨l, m, s⟩ := x
  obtain ⟨hw, hn⟩ : WF l ∧ l.length ≤ 300 := hx
  obtain ⟨h29, e29, o29⟩ := ent_ex Sm (fun x : Im => ([x.pv], PV.tup [.int .i64 (ckI x.l x.m x.s), .int .i64 x.ce])) (fun a b h => by
    simp only [List.cons.injEq, and_true] at h; rw [Im.pv_inj h])
  obtain ⟨h36, e36, o36⟩ := ent_ex (fun l : List Ins => WF l ∧ l.length ≤ 1000000) (fun l => ([code l], .lst 1 ((kps l l.length).map ni))) (fun a b h => by
    simp only [List.cons.injEq, and_true, code, PV.lst.injEq, true_and] at h; rw [pv_inj h])
  obtain ⟨h27, e27, o27⟩ := ent_ex By (fun x : Ins => ([x.pv], PV.tup [.int .i64 (tgt x), .bool (tb x.k)])) (fun a b h => by
    simp only [List.cons.injEq, and_true] at h; rw [Ins.pv_inj h])
  obtain ⟨h28, e28, o28⟩ := ent_ex (fun p : Ins × Int => By p.1) (fun p => ([p.1.pv, .int .i64 p.2], (rtI p.1 p.2).pv)) (fun a b h => by
    simp only [List.cons.injEq, and_true, PV.int.injEq, true_and] at h; rw [Ins.pv_inj h.1, h.2])
  have hT : TabOk Tryd.prog X.G [(29, h29), (36, h36), (27, h27), (28, h28)] :=
    tk (fun l r e => by obtain ⟨a, ha, rfl, rfl⟩ := o29 l r e; exact ok29 a.l a.m a.s ha.1 ha.2) (tk (fun l r e => by obtain ⟨a, ha, rfl, rfl⟩ := o36 l r e; exact ok36 a ha.1 ha.2) (tk (fun l r e => by obtain ⟨a, ha, rfl, rfl⟩ := o27 l r e; exact ok27 a ha) (tk (fun l r e => by obtain ⟨a, ha, rfl, rfl⟩ := o28 l r e; exact ok28 a.1 a.2 ha) tn)))
  have c29 : (tab X.sh [(29, h29), (36, h36), (27, h27), (28, h28)] []).iso 29 [imgP l m s] = some (.tup [.int .i64 (ckI l m s), .int .i64 (ckE l m s)]) := e29 ⟨l, m, s⟩ ⟨hw, hn⟩
  have c36 : (tab X.sh [(29, h29), (36, h36), (27, h27), (28, h28)] []).iso 36 [code l] = some (.lst 1 ((kps l l.length).map ni)) := e36 l ⟨hw, by omega⟩
  refine wok env (tab_orc hT tn') fd16 (t16 h29 h36 h27 h28 l (opt l) (kps l l.length) (ixs (kps l l.length) l.length (kps l l.length).length) m s (ckI l m s) (ckE l m s)) ?_
  simp only [Holds, Pv.Next]
  refine ⟨pcallv_iso rfl rfl c29, fun h => ?_, fun h => ?_⟩
  · have hne : ¬ ckE l m s = 0 := by simpa using h
    have e : (⟨l, m, s⟩ : Im).op = ⟨[], 0, 0⟩ := by unfold Im.op; exact if_neg hne
    rw [e]
    exact ⟨_, _, rfl, Sub.tup (.cons (Sub.agg (.cons (Sub.nils 5) (SubL.refl _))) (SubL.refl _))⟩
  · have h0 : ckE l m s = 0 := by simpa using h
    have e : (⟨l, m, s⟩ : Im).op = ⟨opt l, m, s⟩ := by unfold Im.op; exact if_pos h0
    have hd : Wd l := (wd_ck.1 h0).2
    have hkl := kps_len l l.length
    have hol : (opt l).length = (kps l l.length).length := by
      have := congrArg List.length (kps_red l)
      rw [List.length_map] at this
      rw [this]; exact outp_len _
    have k1 : pmakeS Tryd.prog 2 39 (.int .i64 ((List.map Ins.pv l).length : Int)) (.int .i64 ((List.map Ins.pv l).length : Int)) = some (.sl 2 1 0 l.length, ⟨1, List.map I (List.replicate l.length 0), 0⟩) := by
      rw [List.length_map, pmakeS_eq (T := 39) (E := 3) (n := 1) (z := [.int .i64 0]) Tryd.underlying39 sz3 z3 rfl (by decide) (bytes_ok by3 (by omega)) (by omega)]
      have : rep l.length [PV.int .i64 0] = List.map I (List.replicate l.length 0) := by
        rw [show ([PV.int .i64 0] : List PV) = (fun a => [I a]) (0 : Int) from rfl, rep_map (fun a => [I a]), List.map_eq_flatMap]
      rw [this]
    have k2 : pmakeS Tryd.prog 3 28 (.int .i64 ((List.map ni (kps l l.length)).length : Int)) (.int .i64 ((List.map ni (kps l l.length)).length : Int)) = some (.sl 3 5 0 (kps l l.length).length, ⟨5, List.flatMap Ins.cs (List.replicate (kps l l.length).length ⟨0, 0, 0, 0, 0⟩), 0⟩) := by
      rw [List.length_map, pmakeS_eq (T := 28) (E := 23) (n := 5) (z := Ins.cs ⟨0, 0, 0, 0, 0⟩) Tryd.underlying28 sz23 z23 rfl (by decide) (bytes_ok by23 (by omega)) (by omega), rep_map]
    have hix : (ixs (kps l l.length) l.length (kps l l.length).length).length = l.length := ixs_len _ _ _
    have lA := lpA l m s h29 h36 h27 h28 hT hn (kps l l.length) (fun p hp => kps_lt l l.length p hp) hkl (kps l l.length).length 0 (by omega)
    have lB := lpB16 l m s h29 h36 h27 h28 hT hw hn (kps l l.length) (ixs (kps l l.length) l.length (kps l l.length).length) (opt l) hix hol hkl (fun x hx => e27 x hx) (fun x j hx => e28 (x, j) hx) (fun i p hi => by
      have hpl := kps_lt l l.length p (List.mem_of_getElem? hi)
      have hx : l[p]? = some l[p] := List.getElem?_eq_getElem hpl
      obtain ⟨q1, q2⟩ := opt_at hd hw (by omega) hi hx
      exact ⟨_, _, hx, q1, q2⟩) (kps l l.length).length 0 (by omega)
    rw [fil_zero, hol] at lB
    refine ⟨pcallv_iso rfl rfl c36, congrArg (Option.map fun x => (x.1, _ ++ [x.2])) k1, ⟨trivial, trivial, ⟨VW.int rfl, VW.sl rfl rfl rfl rfl, VW.lst rfl rfl, VW.ptr rfl rfl, VW.ptr rfl rfl, VW.lst rfl rfl, VW.int (by rw [List.length_map]), trivial⟩, ⟨BW.cells (.cons (VW.lst rfl rfl) (.cons (VW.int rfl) (.cons (VW.int rfl) .nil))), BW.flat rfl nb_z, BW.flat rfl (fun c hc => nb_I hc), trivial⟩⟩, lA, congrArg (Option.map fun x => (x.1, _ ++ [x.2])) k2,
      ⟨trivial, trivial, ⟨VW.int rfl, VW.sl rfl rfl rfl rfl, VW.sl rfl rfl rfl rfl, VW.ptr rfl rfl, VW.lst rfl rfl, VW.ptr rfl rfl, VW.int (by rw [List.length_map]), trivial⟩, ⟨BW.cells (.cons (VW.lst rfl rfl) (.cons (VW.int rfl) (.cons (VW.int rfl) .nil))), BW.flat rfl nb_z, BW.flat rfl (fun c hc => nb_I hc), BW.flat rfl (fun c hc => nb_cs hc), trivial⟩⟩, lB, ?_⟩
    rw [e]
    refine ⟨_, _, fz_tup (fzL_cons (fz_agg (fzL_cons (by rw [← hol]; exact fz_many (d := 2) rfl) (fzL_cons rfl (fzL_cons rfl rfl)))) (fzL_cons rfl rfl)), ?_⟩
    rw [show (⟨l, m, s⟩ : Im).ce = 0 from h0]
    exact Sub.refl _
def smB (x : Im) : Bool := decide (x.l.length ≤ 90) && (x.ce == 0)
theorem ok15 (x : Im) (hx : WF x.l) : Ok Tryd.prog X.G 15 [x.pv] (.bool (smB x)) := by
  obtain ⟨l, m, s⟩ := x
  obtain ⟨h20, e20, o20⟩ := ent_ex Sm (fun x : Im => ([x.pv], PV.bool (x.ce == 0))) (fun a b h => by
    simp only [List.cons.injEq, and_true] at h; rw [Im.pv_inj h])
  have hT : TabOk Tryd.prog X.G [(20, h20)] := tk (fun l r e => by obtain ⟨a, ha, rfl, rfl⟩ := o20 l r e; exact ok20 a.l a.m a.s ha.1 ha.2) tn
  refine wok env (tab_orc hT tn') fd15 (t15 h20 l m s (ckE l m s == 0)) ?_
  have fin : ∀ (b : Bool) (bs : List Pv.Box), b = smB ⟨l, m, s⟩ → Fz bs (.bool b) (.bool (smB ⟨l, m, s⟩)) := fun b bs e => by subst e; exact ⟨_, _, rfl, Sub.refl _⟩
  simp only [Holds]
  refine ⟨fun h => ?_, fun h => fin _ _ ?_⟩
  · have hl : l.length ≤ 90 := by have := of_decide_eq_true h; rw [List.length_map] at this; omega
    have c20 : (tab X.sh [(20, h20)] []).iso 20 [imgP l m s] = some (.bool (ckE l m s == 0)) := e20 ⟨l, m, s⟩ ⟨hx, by show l.length ≤ 300; omega⟩
    refine ⟨pcallv_iso rfl rfl c20, fin _ _ ?_⟩
    unfold smB Im.ce
    simp [hl]
  · have hl : ¬ l.length ≤ 90 := by have := of_decide_eq_false h; rw [List.length_map] at this; omega
    unfold smB
    simp [hl]
theorem w64 {n : Int} (h : -9223372036854775808 ≤ n) (h' : n < 9223372036854775808) : IntKind.i64.wrap n = n := by
  rw [IntKind.wrap_i64]; omega
theorem Sm.opt_le {x : Im} (hx : Sm x) (h : x.ce = 0) : (opt x.l).length ≤ x.l.length := by
  have hd : Wd x.l := (wd_ck.1 h).2
  have hr := (red_all hd hx.1 (by have := hx.2; omega)).2.2.2
  have : (opt x.l).length = (red lc (lw x.l)).length := outp_len _
  omega
theorem Im.op_ok {x : Im} (h : x.ce = 0) : x.op = ⟨opt x.l, x.m, x.s⟩ := if_pos h
def rmN (x : Im) : Int := if x.ce = 0 then (x.l.length : Int) - ((opt x.l).length : Int) else 0
theorem ok19 (x : Im) (hx : Sm x) : Ok Tryd.prog X.G 19 [x.pv] (.int .i64 (rmN x)) := by
  obtain ⟨l, m, s⟩ := x
  obtain ⟨h16, e16, o16⟩ := ent_ex Sm (fun x : Im => ([x.pv], PV.tup [x.op.pv, .int .i64 x.ce])) (fun a b h => by
    simp only [List.cons.injEq, and_true] at h; rw [Im.pv_inj h])
  have hT : TabOk Tryd.prog X.G [(16, h16)] := tk (fun l r e => by obtain ⟨a, ha, rfl, rfl⟩ := o16 l r e; exact ok16 a ha) tn
  refine wok env (tab_orc hT tn') fd19 (t19 h16 l (Im.op ⟨l, m, s⟩).l m s (Im.op ⟨l, m, s⟩).m (Im.op ⟨l, m, s⟩).s (ckE l m s)) ?_
  have c16 : (tab X.sh [(16, h16)] []).iso 16 [imgP l m s] = some (.tup [(Im.op ⟨l, m, s⟩).pv, .int .i64 (ckE l m s)]) := e16 ⟨l, m, s⟩ hx
  simp only [Holds]
  refine ⟨pcallv_iso rfl rfl c16, fun h => ?_, fun h => ?_⟩
  · have hne : ¬ ckE l m s = 0 := by simpa using h
    have e : rmN ⟨l, m, s⟩ = 0 := if_neg hne
    rw [e]
    exact ⟨_, _, rfl, Sub.refl _⟩
  · have h0 : ckE l m s = 0 := by simpa using h
    have e : rmN ⟨l, m, s⟩ = (l.length : Int) - ((opt l).length : Int) := if_pos h0
    have hle := Sm.opt_le hx h0
    have hn := hx.2
    have e2 := Im.op_ok (x := ⟨l, m, s⟩) h0
    have e3 : IntKind.i64.wrap (((List.map Ins.pv l).length : Int) - ((List.map Ins.pv (Im.op ⟨l, m, s⟩).l).length : Int)) = rmN ⟨l, m, s⟩ := by
      rw [e, e2, List.length_map, List.length_map]
      have hle' : (opt l).length ≤ l.length := hle
      have hn' : l.length ≤ 300 := hn
      show IntKind.i64.wrap ((l.length : Int) - ((opt l).length : Int)) = _
      exact w64 (by omega) (by omega)
    rw [e3]
    exact ⟨_, _, rfl, Sub.refl _⟩
end Go.Proofs.YtkfmhmkeikhdbaaDoor
