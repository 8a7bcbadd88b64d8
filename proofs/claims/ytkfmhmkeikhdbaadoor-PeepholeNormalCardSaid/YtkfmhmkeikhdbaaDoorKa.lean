/- Inverse, the two Cancels, equal codes. -/
import Derived.Test.YtkfmhmkeikhdbaaDoorRa
import Derived.Test.YtkfmhmkeikhdbaaDoorPvZ
namespace Go.Proofs.YtkfmhmkeikhdbaaDoor
open Go.Proofs.YtkfmhmkeikhdbaaDoor.Pv Go.RowKit
set_option maxRecDepth 100000
set_option maxHeartbeats 4000000
set_option linter.unusedSimpArgs false
set_option linter.unusedVariables false
theorem ok11 (x : Ins) : Ok Tryd.prog X.G 11 [x.pv] (inI x).pv := by
  refine wok env (tab_orc tn tn') fd11 (t11 x) ?_
  have fin : ∀ (v : Int) (bs : List Pv.Box), v = invO x.k → Fz bs (.agg [.int .u8 v, .int .i64 x.a, .int .i64 x.b, .int .i64 x.c, .int .i64 x.d]) (inI x).pv := fun v bs e => by
    subst e; exact ⟨_, _, rfl, Sub.refl _⟩
  simp only [Holds]
  refine ⟨fun h => fin _ _ (by rw [beq_iff_eq] at h; rw [h]; rfl), fun h1 => ?_⟩
  refine ⟨fun h => fin _ _ (by rw [beq_iff_eq] at h; rw [h]; rfl), fun h2 => ?_⟩
  refine ⟨fun h => fin _ _ (by rw [beq_iff_eq] at h; rw [h]; rfl), fun h3 => ?_⟩
  refine ⟨fun h => fin _ _ (by rw [beq_iff_eq] at h; rw [h]; rfl), fun h4 => ?_⟩
  refine ⟨fun h => fin _ _ (by rw [beq_iff_eq] at h; rw [h]; rfl), fun h5 => ?_⟩
  refine ⟨fun h => fin _ _ (by rw [beq_iff_eq] at h; rw [h]; rfl), fun h6 => ?_⟩
  refine ⟨fun h => fin _ _ (by rw [beq_iff_eq] at h; rw [h]; rfl), fun h7 => ?_⟩
  refine ⟨fun h => fin _ _ (by rw [beq_iff_eq] at h; rw [h]; rfl), fun h8 => ?_⟩
  refine ⟨fun h => fin _ _ (by rw [beq_iff_eq] at h; rw [h]; rfl), fun h9 => ?_⟩
  refine ⟨fun h => fin _ _ (by rw [beq_iff_eq] at h; rw [h]; rfl), fun h10 => ?_⟩
  refine ⟨fun h => fin _ _ (by rw [beq_iff_eq] at h; rw [h]; rfl), fun h11 => ?_⟩
  refine ⟨fun h => fin _ _ (by rw [beq_iff_eq] at h; rw [h]; rfl), fun h12 => ?_⟩
  refine ⟨fun h => fin _ _ (by rw [beq_iff_eq] at h; rw [h]; rfl), fun h13 => ?_⟩
  refine ⟨fun h => fin _ _ (by rw [beq_iff_eq] at h; rw [h]; rfl), fun h14 => ?_⟩
  refine ⟨fun h => fin _ _ (by rw [beq_iff_eq] at h; rw [h]; rfl), fun h15 => ?_⟩
  refine ⟨fun h => fin _ _ (by rw [beq_iff_eq] at h; rw [h]; rfl), fun h16 => ?_⟩
  refine ⟨fun h => fin _ _ (by rw [beq_iff_eq] at h; rw [h]; rfl), fun h17 => ?_⟩
  refine ⟨fun h => fin _ _ (by rw [beq_iff_eq] at h; rw [h]; rfl), fun h18 => ?_⟩
  refine ⟨fun h => fin _ _ (by rw [beq_iff_eq] at h; rw [h]; rfl), fun h19 => ?_⟩
  refine ⟨fun h => fin _ _ (by rw [beq_iff_eq] at h; rw [h]; rfl), fun h20 => ?_⟩
  exact fin _ _ (by simp only [beq_eq_false_iff_ne] at *; rw [invO_other x.k (by omega)])
def cmpI (x y : Ins) : Bool := x.k == y.k && (x.a == y.a && (x.b == y.b && (x.c == y.c && (x.d == y.d && true))))
theorem cmpI_iff (x y : Ins) : cmpI x y = decide (x = y) := by
  rw [Bool.eq_iff_iff]
  cases x; cases y; simp [cmpI]
theorem can_def (x y : Ins) : can x y = (!tb x.k && (!(x.k == 34) && (!(x.k == 21) && (!(x.k == 0) && (vld x && cmpI y (inI x)))))) := by
  rw [Bool.eq_iff_iff, can_iff, cmpI_iff]
  simp
theorem ok12 (x y : Ins) (hx : By x) : Ok Tryd.prog X.G 12 [x.pv, y.pv] (.bool (can x y)) := by
  obtain ⟨h27, e27, o27⟩ := ent_ex By (fun x : Ins => ([x.pv], .tup [.int .i64 (tgt x), .bool (tb x.k)])) (fun a b h => by simp only [List.cons.injEq, and_true] at h; rw [Ins.pv_inj h])
  obtain ⟨h13, e13, o13⟩ := ent_ex By (fun x : Ins => ([x.pv], .bool (vld x))) (fun a b h => by simp only [List.cons.injEq, and_true] at h; rw [Ins.pv_inj h])
  obtain ⟨h11, e11, o11⟩ := ent_ex (fun _ => True) (fun x : Ins => ([x.pv], (inI x).pv)) (fun a b h => by simp only [List.cons.injEq, and_true] at h; rw [Ins.pv_inj h])
  have hT : TabOk Tryd.prog X.G [(27, h27), (13, h13), (11, h11)] := tk (fun l r e => by obtain ⟨a, ha, rfl, rfl⟩ := o27 l r e; exact ok27 a ha) (tk (fun l r e => by obtain ⟨a, ha, rfl, rfl⟩ := o13 l r e; exact ok13 a ha) (tk (fun l r e => by obtain ⟨a, ha, rfl, rfl⟩ := o11 l r e; exact ok11 a) tn))
  refine wok env (tab_orc hT tn') fd12 (t12 h27 h13 h11 x y (inI x) (tgt x) (tb x.k) (vld x)) ?_
  have c27 : (tab X.sh [(27, h27), (13, h13), (11, h11)] []).iso 27 [x.pv] = some (.tup [.int .i64 (tgt x), .bool (tb x.k)]) := e27 x hx
  have c13 : (tab X.sh [(27, h27), (13, h13), (11, h11)] []).iso 13 [x.pv] = some (.bool (vld x)) := e13 x hx
  have c11 : (tab X.sh [(27, h27), (13, h13), (11, h11)] []).iso 11 [x.pv] = some (inI x).pv := e11 x trivial
  have fin : ∀ (b : Bool) (bs : List Pv.Box), b = can x y → Fz bs (.bool b) (.bool (can x y)) := fun b bs e => by subst e; exact ⟨_, _, rfl, Sub.refl _⟩
  simp only [Holds]
  rw [can_def] at fin ⊢
  refine ⟨fun ht => ⟨by rw [ht] at c27; exact pcallv_iso rfl rfl c27, fin _ _ (by simp [ht])⟩, fun ht => ⟨by rw [ht] at c27; exact pcallv_iso rfl rfl c27, ?_⟩⟩
  refine ⟨fun h => fin _ _ (by simp [h]), fun h1 => ⟨fun h => fin _ _ (by simp [h]), fun h2 => ⟨fun h => fin _ _ (by simp [h]), fun h3 => ?_⟩⟩⟩
  refine ⟨fun hv => ⟨by rw [hv] at c13; exact pcallD_iso rfl rfl c13, by exact pcallD_iso rfl rfl c11, ?_⟩, fun hv => ⟨by rw [hv] at c13; exact pcallD_iso rfl rfl c13, fin _ _ (by simp [hv])⟩⟩
  refine ⟨fun h => fin _ _ ?_, fun h => fin _ _ ?_⟩
  · have h' : cmpI y (inI x) = true := h
    simp [ht, h1, h2, h3, hv, h']
  · have h' : cmpI y (inI x) = false := h
    simp [h']
end Go.Proofs.YtkfmhmkeikhdbaaDoor
