/- Small images; what is removed. -/
import Derived.Test.YtkfmhmkeikhdbaaDoorKf
import Derived.Test.YtkfmhmkeikhdbaaDoorRa
namespace Go.Proofs.YtkfmhmkeikhdbaaDoor
open Go.Proofs.YtkfmhmkeikhdbaaDoor.Pv Go.RowKit
set_option maxRecDepth 100000
set_option maxHeartbeats 4000000
set_option linter.unusedSimpArgs false
set_option linter.unusedVariables false
def smB (x : Im) : Bool := decide (x.l.length ≤ 90) && (x.ce == 0)
theorem ok15 (x : Im) (hx : WF x.l) : Ok Tryd.prog X.G 15 [x.pv] (.bool (smB x)) := by
  obtain ⟨l, m, s⟩ := x
  obtain ⟨h20, e20, o20⟩ := ent_ex Sm (fun x : Im => ([x.pv], PV.bool (x.ce == 0))) (fun a b h => by
    simp only [List.cons.injEq, and_true] at h; rw [Im.pv_inj h])
  have hT : TabOk Tryd.prog X.G [(20, h20)] := tk (fun l r e => by obtain ⟨a, ha, rfl, rfl⟩ := o20 l r e; exact ok20 a.l a.m a.s ha.1 ha.2) tn
  refine wok env (tab_orc hT tn') fd15 (t15 h20 l m s (ckE l m s == 0)) ?_
  have fin : ∀ (b : Bool) (bs : List Pv.Box), b = smB ⟨l, m, s⟩ → Fz bs (.bool b) (.bool (smB ⟨l, m, s⟩)) := fun b bs e => by subst e; exact ⟨_, _, rfl, Sub.refl _⟩
  simp only [Holds]
  refine ⟨fun h => ?_, fun h => fin _ _ ?_⟩
  · have hl : l.length ≤ 90 := by have := of_decide_eq_true h; rw [List.length_map] at this; omega
    have c20 : (tab X.sh [(20, h20)] []).iso 20 [imgP l m s] = some (.bool (ckE l m s == 0)) := e20 ⟨l, m, s⟩ ⟨hx, by show l.length ≤ 300; omega⟩
    refine ⟨pcallv_iso rfl rfl c20, fin _ _ ?_⟩
    unfold smB Im.ce
    simp [hl]
  · have hl : ¬ l.length ≤ 90 := by have := of_decide_eq_false h; rw [List.length_map] at this; omega
    unfold smB
    simp [hl]
theorem w64 {n : Int} (h : -9223372036854775808 ≤ n) (h' : n < 9223372036854775808) : IntKind.i64.wrap n = n := by
  rw [IntKind.wrap_i64]; omega
theorem Sm.opt_le {x : Im} (hx : Sm x) (h : x.ce = 0) : (opt x.l).length ≤ x.l.length := by
  have hd : Wd x.l := (wd_ck.1 h).2
  have hr := (red_all hd hx.1 (by have := hx.2; omega)).2.2.2
  have : (opt x.l).length = (red lc (lw x.l)).length := outp_len _
  omega
theorem Im.op_ok {x : Im} (h : x.ce = 0) : x.op = ⟨opt x.l, x.m, x.s⟩ := if_pos h
def rmN (x : Im) : Int := if x.ce = 0 then (x.l.length : Int) - ((opt x.l).length : Int) else 0
theorem ok19 (x : Im) (hx : Sm x) : Ok Tryd.prog X.G 19 [x.pv] (.int .i64 (rmN x)) := by
  obtain ⟨l, m, s⟩ := x
  obtain ⟨h16, e16, o16⟩ := ent_ex Sm (fun x : Im => ([x.pv], PV.tup [x.op.pv, .int .i64 x.ce])) (fun a b h => by
    simp only [List.cons.injEq, and_true] at h; rw [Im.pv_inj h])
  have hT : TabOk Tryd.prog X.G [(16, h16)] := tk (fun l r e => by obtain ⟨a, ha, rfl, rfl⟩ := o16 l r e; exact ok16 a ha) tn
  refine wok env (tab_orc hT tn') fd19 (t19 h16 l (Im.op ⟨l, m, s⟩).l m s (Im.op ⟨l, m, s⟩).m (Im.op ⟨l, m, s⟩).s (ckE l m s)) ?_
  have c16 : (tab X.sh [(16, h16)] []).iso 16 [imgP l m s] = some (.tup [(Im.op ⟨l, m, s⟩).pv, .int .i64 (ckE l m s)]) := e16 ⟨l, m, s⟩ hx
  simp only [Holds]
  refine ⟨pcallv_iso rfl rfl c16, fun h => ?_, fun h => ?_⟩
  · have hne : ¬ ckE l m s = 0 := by simpa using h
    have e : rmN ⟨l, m, s⟩ = 0 := if_neg hne
    rw [e]
    exact ⟨_, _, rfl, Sub.refl _⟩
  · have h0 : ckE l m s = 0 := by simpa using h
    have e : rmN ⟨l, m, s⟩ = (l.length : Int) - ((opt l).length : Int) := if_pos h0
    have hle := Sm.opt_le hx h0
    have hn := hx.2
    have e2 := Im.op_ok (x := ⟨l, m, s⟩) h0
    have e3 : IntKind.i64.wrap (((List.map Ins.pv l).length : Int) - ((List.map Ins.pv (Im.op ⟨l, m, s⟩).l).length : Int)) = rmN ⟨l, m, s⟩ := by
      rw [e, e2, List.length_map, List.length_map]
      have hle' : (opt l).length ≤ l.length := hle
      have hn' : l.length ≤ 300 := hn
      show IntKind.i64.wrap ((l.length : Int) - ((opt l).length : Int)) = _
      exact w64 (by omega) (by omega)
    rw [e3]
    exact ⟨_, _, rfl, Sub.refl _⟩
end Go.Proofs.YtkfmhmkeikhdbaaDoor
