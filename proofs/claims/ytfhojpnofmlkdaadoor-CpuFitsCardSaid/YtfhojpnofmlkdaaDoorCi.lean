/- Machines that do not fit. -/
import Derived.Test.YtfhojpnofmlkdaaDoorCh
namespace Go.Proofs.YtfhojpnofmlkdaaDoor
open Go.Proofs.YtfhojpnofmlkdaaDoor.Pv Go.RowKit
set_option maxRecDepth 100000
set_option maxHeartbeats 4000000
set_option linter.unusedSimpArgs false
set_option linter.unusedVariables false
set_option maxHeartbeats 2000000
theorem cs_iff {a b : Mc} : a.cs = b.cs ↔ a = b := ⟨cs_inj, fun h => by rw [h]⟩
theorem pcallv_f0 {C : Orc} {g : Nat} {al : List PV} {hp : List Pv.Box} {r : PV} (hs : C.sh g = true) (hn : al.all (noBoxB deep) = true) (hr : noBoxB deep r = true) (hc : C.shr g al [] = some (r, [])) : pcallv C (.fn g []) al hp = some (r, hp) := by
  unfold pcallv
  simp only [List.append_nil]
  rw [if_pos hs, if_pos hn]
  unfold pfresh
  rw [hc]
  simp only [List.map_nil, Option.map_some, List.append_nil]
  unfold shiftP
  rw [noBox_ren _ _ hr]
theorem pcallv_f1 {C : Orc} {g : Nat} {al : List PV} {hp : List Pv.Box} {x : Mc} (hs : C.sh g = true) (hn : al.all (noBoxB deep) = true) (hc : C.shr g al [] = some (.ptr 0 0, [mbx x])) : pcallv C (.fn g []) al hp = some (.ptr hp.length 0, hp ++ [mbx x]) := by
  unfold pcallv
  simp only [List.append_nil]
  rw [if_pos hs, if_pos hn]
  unfold pfresh
  rw [hc]
  simp only [List.map_cons, List.map_nil, Option.map_some]
  have e1 : shiftP hp.length [mbx x].length (.ptr 0 0) = .ptr hp.length 0 := by
    show (match shN hp.length 1 0 with | some j => PV.ptr j 0 | none => PV.any) = _
    unfold shN; rw [if_pos (by decide)]; simp
  have e2 : shiftB hp.length [mbx x].length (mbx x) = mbx x := renB_no (m := shN hp.length 1) rfl
  rw [e1, e2]
theorem Sm.neg {x : Mc} (h : Sm x) : Sm (neg x) := ⟨h.m, h.s, h.ss, h.c, h.i, h.o⟩
def R64d (x : Mc) : Prop := -9223372036854775808 ≤ x.dir ∧ x.dir ≤ 9223372036854775807
theorem neg_neg {x : Mc} (h : R64d x) : neg (neg x) = x := by
  obtain ⟨p, d, r, m, s, c, f, sb, i, o⟩ := x
  unfold R64d at h
  unfold YtfhojpnofmlkdaaDoor.neg
  simp only [Mc.mk.injEq, true_and, and_true, IntKind.wrap_i64] at h ⊢
  omega
theorem fit_neg {l : List Ins} {m s : Int} {x : Mc} (h : R64d x) : fitM l m s (neg x) = fitM l m s x := by
  have e : ((neg x).dir = 1 ∨ (neg x).dir = -1) ↔ (x.dir = 1 ∨ x.dir = -1) := by
    unfold R64d at h
    show (IntKind.wrap .i64 (0 - x.dir) = 1 ∨ IntKind.wrap .i64 (0 - x.dir) = -1) ↔ _
    rw [IntKind.wrap_i64]; omega
  unfold fitM
  simp only [e]
  rfl
theorem bw_mbe {m : Nat → Option Nat} {hp : List Pv.Box} {x y : Mc} (h : y = x) : BW m hp (mbx y) (mbx x) := by subst h; exact bw_mbx
def aP : Option Mc → PV
  | some _ => .ptr 0 0
  | none => .nilp
def aB : Option Mc → List Pv.Box
  | some x => [mbx x]
  | none => []
theorem aB_inj {a b : Option Mc} : aB a = aB b ↔ a = b := ⟨fun h => by
  cases a <;> cases b <;> simp only [aB] at h
  · rfl
  · simp at h
  · simp at h
  · rw [mbx_inj.1 (List.cons.inj h).1], fun h => by rw [h]⟩
def P20 (l : List Ins) : Option Mc → Prop
  | some x => (WF l ∧ l.length ≤ 300) ∧ Sm x
  | none => True
def b20 (l : List Ins) (m s : Int) : Option Mc → Bool
  | some x => (ckE l m s == 0) && fitM l m s x
  | none => false
def P16 (l : List Ins) (m s : Int) : Option Mc → Prop
  | some x => Sm x ∧ fitM l m s x = false
  | none => True
def P19 (l : List Ins) (m s : Int) : Option Mc → Prop
  | some x => (Sm x ∧ fitM l m s x = false) ∧ R64d x
  | none => True
def e16 : Option Mc → Int
  | some _ => 20
  | none => 1
theorem sh20n  (l : List Ins) (m : Int) (s : Int)  : Sh Tryd.prog X.G 20 [imgP l m s, .nilp] [] (.bool false) ([]) := by
  obtain ⟨iso, shr, hC⟩ : ∃ iso shr, OrcOk Tryd.prog X.G ⟨iso, shr, ownS X.sh, []⟩ := ⟨_, _, iso0⟩
  refine wfun_ok env hC fd20 (t20n iso shr l m s) ?_ hhS
  simp only [Holds]
  first | (exact ⟨[], [], rfl, trivial, ⟨VW.bool rfl, trivial⟩, trivial⟩; done) | (first | omega | contradiction | (simp_all; done); done)
theorem sh16n  (l : List Ins) (m : Int) (s : Int)  : Sh Tryd.prog X.G 16 [imgP l m s, .nilp] [] (.int .i64 1) ([]) := by
  obtain ⟨iso, shr, hC⟩ : ∃ iso shr, OrcOk Tryd.prog X.G ⟨iso, shr, ownS X.sh, []⟩ := ⟨_, _, iso0⟩
  refine wfun_ok env hC fd16 (t16n iso shr l m s) ?_ hhS
  simp only [Holds]
  first | (exact ⟨[], [], rfl, trivial, ⟨VW.int rfl, trivial⟩, trivial⟩; done) | (first | omega | contradiction | (simp_all; done); done)
theorem sh22n    : Sh Tryd.prog X.G 22 [.nilp] [] (.tup []) ([]) := by
  obtain ⟨iso, shr, hC⟩ : ∃ iso shr, OrcOk Tryd.prog X.G ⟨iso, shr, ownS X.sh, []⟩ := ⟨_, _, iso0⟩
  refine wfun_ok env hC fd22 (t22n iso shr ) ?_ hhS
  simp only [Holds]
  first | (exact ⟨[], [], rfl, trivial, ⟨VW.nb rfl rfl, trivial⟩, trivial⟩; done) | (first | omega | contradiction | (simp_all; done); done)
theorem sh22  (x : Mc)  : Sh Tryd.prog X.G 22 [.ptr 0 0] [mbx x] (.tup []) ([mbx (neg x)]) := by
  obtain ⟨iso, shr, hC⟩ : ∃ iso shr, OrcOk Tryd.prog X.G ⟨iso, shr, ownS X.sh, []⟩ := ⟨_, _, iso0⟩
  refine wfun_ok env hC fd22 (t22 iso shr x) ?_ hhS
  simp only [Holds]
  first | (exact ⟨[], [0], rfl, trivial, ⟨VW.nb rfl rfl, trivial⟩, ⟨bw_mbx (x := neg x), trivial⟩⟩; done) | (first | omega | contradiction | (simp_all; done); done)
theorem li1 : ∃ (iso : Nat → List PV → Option PV) (shr : Nat → List PV → List Pv.Box → Option (PV × List Pv.Box)), OrcOk Tryd.prog X.G ⟨iso, shr, ownS X.sh, []⟩ ∧ (∀ (l : List Ins) (m : Int) (s : Int) (x : Mc), (Sm x) → shr 37 [imgP l m s, .ptr 0 0] [mbx x] = some (.bool (fitM l m s x), [mbx x])) := by
  obtain ⟨h37, e37, o37⟩ := entS_ex (fun q : (List Ins) × (Int) × (Int) × (Mc) => Sm (q.2.2.2)) (fun q => (([imgP (q.1) (q.2.1) (q.2.2.1), .ptr 0 0], [mbx (q.2.2.2)]), (.bool (fitM (q.1) (q.2.1) (q.2.2.1) (q.2.2.2)), [mbx (q.2.2.2)]))) (fun a b h => by simp only [Prod.mk.injEq, List.cons.injEq, nums_inj, stks_inj, acts_inj, Mc_inj, imgP_inj, mbx_inj, PV.int.injEq, ArgPv_inj, aB_inj, PV.cptr.injEq, cs_iff, and_true, true_and] at h; first | rfl | (simp only [h]; done) | (simp [h]; done))
  have hT : TabOk Tryd.prog X.G [] := tn
  have hS : TabSOk Tryd.prog X.G [(37, h37)] := tkS (fun al hp r e' => by
    obtain ⟨a, ha, hb, rfl⟩ := o37 al hp r e'
    simp only [Prod.mk.injEq] at hb
    obtain ⟨rfl, rfl⟩ := hb
    exact sh37 (a.1) (a.2.1) (a.2.2.1) (a.2.2.2) ha) tn'
  exact ⟨_, _, orcS hT hS, fun l m s x hp => e37 (l, m, s, x) hp⟩
theorem sh16  (l : List Ins) (m : Int) (s : Int) (x : Mc) (hs : Sm x) (hf : fitM l m s x = false) : Sh Tryd.prog X.G 16 [imgP l m s, .ptr 0 0] [mbx x] (.int .i64 20) ([mbx x]) := by
  obtain ⟨iso, shr, hC, e37⟩ := li1
  refine wfun_ok env hC fd16 (t16 iso shr l m s x) ?_ hhS
  simp only [Holds]
  refine ⟨?_, ?_⟩
  · first | (exact pcallv_img (i := 0) (x := x) (x' := x) rfl rfl rfl ((e37 _ _ _ _ hs).trans (congrArg (fun b => some (PV.bool b, [mbx x])) hf)); done) | (first | omega | contradiction | (simp_all; done); done)
  first | (exact ⟨[], [0], rfl, trivial, ⟨VW.int rfl, trivial⟩, ⟨bw_mbx, trivial⟩⟩; done) | (first | omega | contradiction | (simp_all; done); done)
theorem sh16o (l : List Ins) (m s : Int) (q : Option Mc) (h : P16 l m s q) : Sh Tryd.prog X.G 16 [imgP l m s, aP q] (aB q) (.int .i64 (e16 q)) (aB q) := by
  cases q with
  | none => exact sh16n l m s
  | some x => exact sh16 l m s x h.1 h.2
theorem sh20o (l : List Ins) (m s : Int) (q : Option Mc) (h : P20 l q) : Sh Tryd.prog X.G 20 [imgP l m s, aP q] (aB q) (.bool (b20 l m s q)) (aB q) := by
  cases q with
  | none => exact sh20n l m s
  | some x => exact sh20 l m s x h.1 h.2
theorem sh22o (q : Option Mc) : Sh Tryd.prog X.G 22 [aP q] (aB q) (.tup []) (aB (q.map neg)) := by
  cases q with
  | none => exact sh22n
  | some x => exact sh22 x
theorem li2 : ∃ (iso : Nat → List PV → Option PV) (shr : Nat → List PV → List Pv.Box → Option (PV × List Pv.Box)), OrcOk Tryd.prog X.G ⟨iso, shr, ownS X.sh, []⟩ ∧ (∀ (l : List Ins) (m : Int) (s : Int) (mo : Option Mc), (P16 l m s mo) → shr 16 [imgP l m s, aP mo] (aB mo) = some (PV.int .i64 (e16 mo), aB mo)) ∧ (∀ (mo : Option Mc), shr 22 [aP mo] (aB mo) = some (PV.tup [], aB (mo.map neg))) := by
  obtain ⟨h16, e16_, o16⟩ := entS_ex (fun q : (List Ins) × (Int) × (Int) × (Option Mc) => P16 (q.1) (q.2.1) (q.2.2.1) (q.2.2.2)) (fun q => (([imgP (q.1) (q.2.1) (q.2.2.1), aP (q.2.2.2)], (aB (q.2.2.2))), (PV.int .i64 (e16 (q.2.2.2)), aB (q.2.2.2)))) (fun a b h => by simp only [Prod.mk.injEq, List.cons.injEq, nums_inj, stks_inj, acts_inj, Mc_inj, imgP_inj, mbx_inj, PV.int.injEq, ArgPv_inj, aB_inj, PV.cptr.injEq, cs_iff, and_true, true_and] at h; first | rfl | (simp only [h]; done) | (simp [h]; done))
  obtain ⟨h22, e22, o22⟩ := entS_ex (fun q : Option Mc => True) (fun q => (([aP (q)], (aB (q))), (PV.tup [], aB ((q).map neg)))) (fun a b h => by simp only [Prod.mk.injEq, List.cons.injEq, nums_inj, stks_inj, acts_inj, Mc_inj, imgP_inj, mbx_inj, PV.int.injEq, ArgPv_inj, aB_inj, PV.cptr.injEq, cs_iff, and_true, true_and] at h; first | rfl | (simp only [h]; done) | (simp [h]; done))
  have hT : TabOk Tryd.prog X.G [] := tn
  have hS : TabSOk Tryd.prog X.G [(16, h16), (22, h22)] := tkS (fun al hp r e' => by
    obtain ⟨a, ha, hb, rfl⟩ := o16 al hp r e'
    simp only [Prod.mk.injEq] at hb
    obtain ⟨rfl, rfl⟩ := hb
    exact sh16o (a.1) (a.2.1) (a.2.2.1) (a.2.2.2) ha) (tkS (fun al hp r e' => by
    obtain ⟨a, ha, hb, rfl⟩ := o22 al hp r e'
    simp only [Prod.mk.injEq] at hb
    obtain ⟨rfl, rfl⟩ := hb
    exact sh22o (a)) tn')
  exact ⟨_, _, orcS hT hS, fun l m s mo hp => e16_ (l, m, s, mo) hp, fun mo  => e22 mo trivial⟩
theorem sh19n  (l : List Ins) (m : Int) (s : Int)  : Sh Tryd.prog X.G 19 [imgP l m s, .nilp] [] (.int .i64 1) ([]) := by
  obtain ⟨iso, shr, hC, e16_, e22⟩ := li2
  refine wfun_ok env hC fd19 (t19n iso shr l m s) ?_ hhS
  simp only [Holds]
  refine ⟨?_, ?_⟩
  · first | (exact pcallv_f0 rfl rfl rfl (e22 none); done) | (first | omega | contradiction | (simp_all; done); done)
  refine ⟨?_, ?_⟩
  · first | (exact pcallv_f0 rfl rfl rfl (e16_ l m s none trivial); done) | (first | omega | contradiction | (simp_all; done); done)
  refine ⟨?_, ?_⟩
  · first | (exact pcallv_f0 rfl rfl rfl (e22 none); done) | (first | omega | contradiction | (simp_all; done); done)
  first | (exact ⟨[], [], rfl, trivial, ⟨VW.int rfl, trivial⟩, trivial⟩; done) | (first | omega | contradiction | (simp_all; done); done)
theorem sh19  (l : List Ins) (m : Int) (s : Int) (x : Mc) (hs : Sm x) (hf : fitM l m s x = false) (hd : R64d x) : Sh Tryd.prog X.G 19 [imgP l m s, .ptr 0 0] [mbx x] (.int .i64 20) ([mbx x]) := by
  obtain ⟨iso, shr, hC, e16_, e22⟩ := li2
  refine wfun_ok env hC fd19 (t19 iso shr l m s x) ?_ hhS
  simp only [Holds]
  refine ⟨?_, ?_⟩
  · first | (exact pcallv_ptr (i := 0) (bx := mbx x) (bx' := mbx (neg x)) rfl rfl rfl rfl rfl rfl (e22 (some x)); done) | (exact pcallv_ptr (i := 0) (bx := mbx (neg x)) (bx' := mbx (neg (neg x))) rfl rfl rfl rfl rfl rfl (e22 (some (neg x))); done) | (first | omega | contradiction | (simp_all; done); done)
  refine ⟨?_, ?_⟩
  · first | (exact pcallv_img (i := 0) (x := neg x) (x' := neg x) rfl rfl rfl (e16_ l m s (some (neg x)) ⟨hs.neg, (fit_neg hd).trans hf⟩); done) | (first | omega | contradiction | (simp_all; done); done)
  refine ⟨?_, ?_⟩
  · first | (exact pcallv_ptr (i := 0) (bx := mbx x) (bx' := mbx (neg x)) rfl rfl rfl rfl rfl rfl (e22 (some x)); done) | (exact pcallv_ptr (i := 0) (bx := mbx (neg x)) (bx' := mbx (neg (neg x))) rfl rfl rfl rfl rfl rfl (e22 (some (neg x))); done) | (first | omega | contradiction | (simp_all; done); done)
  first | (exact ⟨[], [0], rfl, trivial, ⟨VW.int rfl, trivial⟩, ⟨bw_mbe (neg_neg hd), trivial⟩⟩; done) | (first | omega | contradiction | (simp_all; done); done)
theorem sh19o (l : List Ins) (m s : Int) (q : Option Mc) (h : P19 l m s q) : Sh Tryd.prog X.G 19 [imgP l m s, aP q] (aB q) (.int .i64 (e16 q)) (aB q) := by
  cases q with
  | none => exact sh19n l m s
  | some x => exact sh19 l m s x h.1.1 h.1.2 h.2
theorem li3 : ∃ (iso : Nat → List PV → Option PV) (shr : Nat → List PV → List Pv.Box → Option (PV × List Pv.Box)), OrcOk Tryd.prog X.G ⟨iso, shr, ownS X.sh, []⟩ ∧ (iso 12 [] = some (.bool true)) ∧ (∀ (l : List Ins) (m : Int) (s : Int), (WF l ∧ l.length ≤ 300) → iso 25 [imgP l m s] = some (.bool (ckE l m s == 0))) ∧ (∀ (l : List Ins) (m : Int) (s : Int) (x : Mc), (∀ c ∈ x.s, c.length ≤ 17592186044416) → iso 27 [imgP l m s, x.pv] = some (.bool (grt l m s x))) ∧ (∀ (l : List Ins) (m : Int) (s : Int) (x : Mc), (Sm x) → iso 28 [imgP l m s, x.pv] = some (.bool (fitM l m s x))) ∧ (∀ (a : Mc) (b : Arg), (Sm a) → iso 17 [a.pv, b.pv] = some (.bool (decide (a = b.mc)))) ∧ (∀ (x : Mc), (Sm x) → shr 15 [.cptr (Mc.cs x)] [] = some (.ptr 0 0, [mbx x])) ∧ (∀ (l : List Ins) (m : Int) (s : Int) (mo : Option Mc), (P20 l mo) → shr 20 [imgP l m s, aP mo] (aB mo) = some (PV.bool (b20 l m s mo), aB mo)) ∧ (∀ (l : List Ins) (m : Int) (s : Int) (mo : Option Mc), (P16 l m s mo) → shr 16 [imgP l m s, aP mo] (aB mo) = some (PV.int .i64 (e16 mo), aB mo)) ∧ (∀ (l : List Ins) (m : Int) (s : Int) (mo : Option Mc), (P19 l m s mo) → shr 19 [imgP l m s, aP mo] (aB mo) = some (PV.int .i64 (e16 mo), aB mo)) := by
  obtain ⟨h12, e12, o12⟩ := ent_ex (fun q : Unit => True) (fun q => ([], .bool true)) (fun a b h => by simp only [List.cons.injEq, nums_inj, stks_inj, acts_inj, Mc_inj, imgP_inj, mbx_inj, PV.int.injEq, ArgPv_inj, aB_inj, PV.cptr.injEq, cs_iff, and_true, true_and] at h; first | rfl | (simp only [h]; done) | (simp [h]; done))
  obtain ⟨h25, e25, o25⟩ := ent_ex (fun q : (List Ins) × (Int) × (Int) => WF (q.1) ∧ (q.1).length ≤ 300) (fun q => ([imgP (q.1) (q.2.1) (q.2.2)], .bool (ckE (q.1) (q.2.1) (q.2.2) == 0))) (fun a b h => by simp only [List.cons.injEq, nums_inj, stks_inj, acts_inj, Mc_inj, imgP_inj, mbx_inj, PV.int.injEq, ArgPv_inj, aB_inj, PV.cptr.injEq, cs_iff, and_true, true_and] at h; first | rfl | (simp only [h]; done) | (simp [h]; done))
  obtain ⟨h27, e27, o27⟩ := ent_ex (fun q : (List Ins) × (Int) × (Int) × (Mc) => ∀ c ∈ (q.2.2.2).s, c.length ≤ 17592186044416) (fun q => ([imgP (q.1) (q.2.1) (q.2.2.1), (q.2.2.2).pv], .bool (grt (q.1) (q.2.1) (q.2.2.1) (q.2.2.2)))) (fun a b h => by simp only [List.cons.injEq, nums_inj, stks_inj, acts_inj, Mc_inj, imgP_inj, mbx_inj, PV.int.injEq, ArgPv_inj, aB_inj, PV.cptr.injEq, cs_iff, and_true, true_and] at h; first | rfl | (simp only [h]; done) | (simp [h]; done))
  obtain ⟨h28, e28, o28⟩ := ent_ex (fun q : (List Ins) × (Int) × (Int) × (Mc) => Sm (q.2.2.2)) (fun q => ([imgP (q.1) (q.2.1) (q.2.2.1), (q.2.2.2).pv], .bool (fitM (q.1) (q.2.1) (q.2.2.1) (q.2.2.2)))) (fun a b h => by simp only [List.cons.injEq, nums_inj, stks_inj, acts_inj, Mc_inj, imgP_inj, mbx_inj, PV.int.injEq, ArgPv_inj, aB_inj, PV.cptr.injEq, cs_iff, and_true, true_and] at h; first | rfl | (simp only [h]; done) | (simp [h]; done))
  obtain ⟨h17, e17, o17⟩ := ent_ex (fun q : (Mc) × (Arg) => Sm (q.1)) (fun q => ([(q.1).pv, (q.2).pv], .bool (decide ((q.1) = (q.2).mc)))) (fun a b h => by simp only [List.cons.injEq, nums_inj, stks_inj, acts_inj, Mc_inj, imgP_inj, mbx_inj, PV.int.injEq, ArgPv_inj, aB_inj, PV.cptr.injEq, cs_iff, and_true, true_and] at h; first | rfl | (simp only [h]; done) | (simp [h]; done))
  obtain ⟨h15, e15, o15⟩ := entS_ex (fun q : Mc => Sm (q)) (fun q => (([.cptr (Mc.cs (q))], []), (.ptr 0 0, [mbx (q)]))) (fun a b h => by simp only [Prod.mk.injEq, List.cons.injEq, nums_inj, stks_inj, acts_inj, Mc_inj, imgP_inj, mbx_inj, PV.int.injEq, ArgPv_inj, aB_inj, PV.cptr.injEq, cs_iff, and_true, true_and] at h; first | rfl | (simp only [h]; done) | (simp [h]; done))
  obtain ⟨h20, e20, o20⟩ := entS_ex (fun q : (List Ins) × (Int) × (Int) × (Option Mc) => P20 (q.1) (q.2.2.2)) (fun q => (([imgP (q.1) (q.2.1) (q.2.2.1), aP (q.2.2.2)], (aB (q.2.2.2))), (PV.bool (b20 (q.1) (q.2.1) (q.2.2.1) (q.2.2.2)), aB (q.2.2.2)))) (fun a b h => by simp only [Prod.mk.injEq, List.cons.injEq, nums_inj, stks_inj, acts_inj, Mc_inj, imgP_inj, mbx_inj, PV.int.injEq, ArgPv_inj, aB_inj, PV.cptr.injEq, cs_iff, and_true, true_and] at h; first | rfl | (simp only [h]; done) | (simp [h]; done))
  obtain ⟨h16, e16_, o16⟩ := entS_ex (fun q : (List Ins) × (Int) × (Int) × (Option Mc) => P16 (q.1) (q.2.1) (q.2.2.1) (q.2.2.2)) (fun q => (([imgP (q.1) (q.2.1) (q.2.2.1), aP (q.2.2.2)], (aB (q.2.2.2))), (PV.int .i64 (e16 (q.2.2.2)), aB (q.2.2.2)))) (fun a b h => by simp only [Prod.mk.injEq, List.cons.injEq, nums_inj, stks_inj, acts_inj, Mc_inj, imgP_inj, mbx_inj, PV.int.injEq, ArgPv_inj, aB_inj, PV.cptr.injEq, cs_iff, and_true, true_and] at h; first | rfl | (simp only [h]; done) | (simp [h]; done))
  obtain ⟨h19, e19, o19⟩ := entS_ex (fun q : (List Ins) × (Int) × (Int) × (Option Mc) => P19 (q.1) (q.2.1) (q.2.2.1) (q.2.2.2)) (fun q => (([imgP (q.1) (q.2.1) (q.2.2.1), aP (q.2.2.2)], (aB (q.2.2.2))), (PV.int .i64 (e16 (q.2.2.2)), aB (q.2.2.2)))) (fun a b h => by simp only [Prod.mk.injEq, List.cons.injEq, nums_inj, stks_inj, acts_inj, Mc_inj, imgP_inj, mbx_inj, PV.int.injEq, ArgPv_inj, aB_inj, PV.cptr.injEq, cs_iff, and_true, true_and] at h; first | rfl | (simp only [h]; done) | (simp [h]; done))
  have hT : TabOk Tryd.prog X.G [(12, h12), (25, h25), (27, h27), (28, h28), (17, h17)] := tk (fun l r e => by obtain ⟨a, ha, rfl, rfl⟩ := o12 l r e; exact ok12) (tk (fun l r e => by obtain ⟨a, ha, rfl, rfl⟩ := o25 l r e; exact okw25 (a.1) (a.2.1) (a.2.2) ha.1 ha.2) (tk (fun l r e => by obtain ⟨a, ha, rfl, rfl⟩ := o27 l r e; exact ok27 (a.1) (a.2.1) (a.2.2.1) (a.2.2.2) ha) (tk (fun l r e => by obtain ⟨a, ha, rfl, rfl⟩ := o28 l r e; exact ok28 (a.1) (a.2.1) (a.2.2.1) (a.2.2.2) ha) (tk (fun l r e => by obtain ⟨a, ha, rfl, rfl⟩ := o17 l r e; exact ok17A (a.1) (a.2) ha) tn))))
  have hS : TabSOk Tryd.prog X.G [(15, h15), (20, h20), (16, h16), (19, h19)] := tkS (fun al hp r e' => by
    obtain ⟨a, ha, hb, rfl⟩ := o15 al hp r e'
    simp only [Prod.mk.injEq] at hb
    obtain ⟨rfl, rfl⟩ := hb
    exact sh15 (a) ha) (tkS (fun al hp r e' => by
    obtain ⟨a, ha, hb, rfl⟩ := o20 al hp r e'
    simp only [Prod.mk.injEq] at hb
    obtain ⟨rfl, rfl⟩ := hb
    exact sh20o (a.1) (a.2.1) (a.2.2.1) (a.2.2.2) ha) (tkS (fun al hp r e' => by
    obtain ⟨a, ha, hb, rfl⟩ := o16 al hp r e'
    simp only [Prod.mk.injEq] at hb
    obtain ⟨rfl, rfl⟩ := hb
    exact sh16o (a.1) (a.2.1) (a.2.2.1) (a.2.2.2) ha) (tkS (fun al hp r e' => by
    obtain ⟨a, ha, hb, rfl⟩ := o19 al hp r e'
    simp only [Prod.mk.injEq] at hb
    obtain ⟨rfl, rfl⟩ := hb
    exact sh19o (a.1) (a.2.1) (a.2.2.1) (a.2.2.2) ha) tn')))
  exact ⟨_, _, orcS hT hS, e12 () trivial, fun l m s hp => e25 (l, m, s) hp, fun l m s x hp => e27 (l, m, s, x) hp, fun l m s x hp => e28 (l, m, s, x) hp, fun a b hp => e17 (a, b) hp, fun x hp => e15 x hp, fun l m s mo hp => e20 (l, m, s, mo) hp, fun l m s mo hp => e16_ (l, m, s, mo) hp, fun l m s mo hp => e19 (l, m, s, mo) hp⟩
theorem ok10  (l : List Ins) (m : Int) (s : Int) (x : Mc) (hw : WF l) (hL : ∀ c ∈ x.s, c.length ≤ 17592186044416) (hd : R64d x) : Ok Tryd.prog X.G 10 [imgP l m s, x.pv] (.bool true) := by
  obtain ⟨iso, shr, hC, e12, e25, e27, e28, e17, e15, e20, e16_, e19⟩ := li3
  have hg := @grt_no l m s x
  refine wok env hC fd10 (t10 iso shr l m s x) ?_ hhS
  simp only [Holds]
  refine ⟨?_, ?_⟩
  · first | (exact pcallv_iso rfl rfl (e12); done) | (first | omega | (exact absurd trivial (by assumption)) | contradiction | (simp_all; done); done)
  refine ⟨fun h0 => ?_, fun h0 => ?_⟩
  · have g0 := h0
    refine ⟨?_, ?_⟩
    · first | (exact pcallv_iso rfl rfl (by rw [← h0]; exact e27 _ _ _ _ hL); done) | (exact pcallv_iso rfl rfl (e27 _ _ _ _ hL); done) | (first | omega | (exact absurd trivial (by assumption)) | contradiction | (simp_all; done); done)
    refine ⟨?_, ?_⟩
    · first | (exact pcallv_iso rfl rfl (e12); done) | (first | omega | (exact absurd trivial (by assumption)) | contradiction | (simp_all; done); done)
    first | (exact fin_b rfl; done) | (first | omega | (exact absurd trivial (by assumption)) | contradiction | (simp_all; done); done)
  · have g0 := h0
    refine ⟨?_, ?_⟩
    · first | (exact pcallv_iso rfl rfl (by rw [← h0]; exact e27 _ _ _ _ hL); done) | (exact pcallv_iso rfl rfl (e27 _ _ _ _ hL); done) | (first | omega | (exact absurd trivial (by assumption)) | contradiction | (simp_all; done); done)
    refine ⟨fun h1 => ?_, fun h1 => ?_⟩
    · have g1 := beq_iff_eq.1 h1
      try simp only [List.length_map] at g1
      refine ⟨?_, ?_⟩
      · first | (exact pcallv_iso rfl rfl (by rw [← h1]; exact e25 _ _ _ ⟨hw, by have := (hg (by assumption)).1; omega⟩); done) | (exact pcallv_iso rfl rfl (e25 _ _ _ ⟨hw, by have := (hg (by assumption)).1; omega⟩); done) | (first | omega | (exact absurd trivial (by assumption)) | contradiction | (simp_all; done); done)
      refine ⟨fun h2 => ?_, fun h2 => ?_⟩
      · have g2 := h2
        refine ⟨?_, ?_⟩
        · first | (exact pcallv_iso rfl rfl (by rw [← h2]; exact e28 _ _ _ _ (hg (by assumption)).2); done) | (exact pcallv_iso rfl rfl (e28 _ _ _ _ (hg (by assumption)).2); done) | (first | omega | (exact absurd trivial (by assumption)) | contradiction | (simp_all; done); done)
        refine ⟨?_, ?_⟩
        · first | (exact pcallv_f1 (hp := [_]) rfl rfl (e15 x (hg (by assumption)).2); done) | (first | omega | (exact absurd trivial (by assumption)) | contradiction | (simp_all; done); done)
        refine ⟨fun h3 => ?_, fun h3 => ?_⟩
        · have g3 := h3
          refine ⟨?_, ?_⟩
          · first | (exact pcallv_f0 rfl rfl rfl (e20 l m s none trivial); done) | (exact pcallv_img (i := 1) (x := x) (x' := x) rfl rfl rfl ((e20 l m s (some x) ⟨⟨hw, by have := (hg (by assumption)).1; omega⟩, (hg (by assumption)).2⟩).trans (congrArg (fun b => some (PV.bool b, [mbx x])) (by assumption))); done) | (first | omega | (exact absurd trivial (by assumption)) | contradiction | (simp_all; done); done)
          refine ⟨?_, ?_⟩
          · first | (exact pcallv_f0 rfl rfl rfl (e20 l m s none trivial); done) | (exact pcallv_img (i := 1) (x := x) (x' := x) rfl rfl rfl ((e20 l m s (some x) ⟨⟨hw, by have := (hg (by assumption)).1; omega⟩, (hg (by assumption)).2⟩).trans (congrArg (fun b => some (PV.bool b, [mbx x])) (by assumption))); done) | (first | omega | (exact absurd trivial (by assumption)) | contradiction | (simp_all; done); done)
          refine ⟨?_, ?_⟩
          · first | (exact pcallv_f0 rfl rfl rfl (e16_ l m s none trivial); done) | (exact pcallv_img (i := 1) (x := x) (x' := x) rfl rfl rfl (e16_ l m s (some x) ⟨(hg (by assumption)).2, by assumption⟩); done) | (first | omega | (exact absurd trivial (by assumption)) | contradiction | (simp_all; done); done)
          refine ⟨?_, ?_⟩
          · first | (exact pcallv_f0 rfl rfl rfl (e19 l m s none trivial); done) | (exact pcallv_img (i := 1) (x := x) (x' := x) rfl rfl rfl (e19 l m s (some x) ⟨⟨(hg (by assumption)).2, by assumption⟩, hd⟩); done) | (first | omega | (exact absurd trivial (by assumption)) | contradiction | (simp_all; done); done)
          first | (exact fin_b rfl; done) | (first | omega | (exact absurd trivial (by assumption)) | contradiction | (simp_all; done); done)
        · have g3 := h3
          refine ⟨?_, ?_⟩
          · first | (exact pcallv_f0 rfl rfl rfl (e20 l m s none trivial); done) | (exact pcallv_img (i := 1) (x := x) (x' := x) rfl rfl rfl ((e20 l m s (some x) ⟨⟨hw, by have := (hg (by assumption)).1; omega⟩, (hg (by assumption)).2⟩).trans (congrArg (fun b => some (PV.bool b, [mbx x])) (by assumption))); done) | (first | omega | (exact absurd trivial (by assumption)) | contradiction | (simp_all; done); done)
          first | (exact fin_b rfl; done) | (first | omega | (exact absurd trivial (by assumption)) | contradiction | (simp_all; done); done)
      · have g2 := h2
        refine ⟨?_, ?_⟩
        · first | (exact pcallv_iso rfl rfl (by rw [← h2]; exact e28 _ _ _ _ (hg (by assumption)).2); done) | (exact pcallv_iso rfl rfl (e28 _ _ _ _ (hg (by assumption)).2); done) | (first | omega | (exact absurd trivial (by assumption)) | contradiction | (simp_all; done); done)
        refine ⟨?_, ?_⟩
        · first | (exact pcallv_f1 (hp := [_]) rfl rfl (e15 x (hg (by assumption)).2); done) | (first | omega | (exact absurd trivial (by assumption)) | contradiction | (simp_all; done); done)
        refine ⟨fun h4 => ?_, fun h4 => ?_⟩
        · have g4 := h4
          refine ⟨?_, ?_⟩
          · first | (exact pcallv_f0 rfl rfl rfl (e20 l m s none trivial); done) | (exact pcallv_img (i := 1) (x := x) (x' := x) rfl rfl rfl ((e20 l m s (some x) ⟨⟨hw, by have := (hg (by assumption)).1; omega⟩, (hg (by assumption)).2⟩).trans (congrArg (fun b => some (PV.bool b, [mbx x])) (by assumption))); done) | (first | omega | (exact absurd trivial (by assumption)) | contradiction | (simp_all; done); done)
          first | (exact fin_b rfl; done) | (first | omega | (exact absurd trivial (by assumption)) | contradiction | (simp_all; done); done)
        · have g4 := h4
          refine ⟨?_, ?_⟩
          · first | (exact pcallv_f0 rfl rfl rfl (e20 l m s none trivial); done) | (exact pcallv_img (i := 1) (x := x) (x' := x) rfl rfl rfl ((e20 l m s (some x) ⟨⟨hw, by have := (hg (by assumption)).1; omega⟩, (hg (by assumption)).2⟩).trans (congrArg (fun b => some (PV.bool b, [mbx x])) (by assumption))); done) | (first | omega | (exact absurd trivial (by assumption)) | contradiction | (simp_all; done); done)
          refine ⟨?_, ?_⟩
          · first | (exact pcallv_f0 rfl rfl rfl (e20 l m s none trivial); done) | (exact pcallv_img (i := 1) (x := x) (x' := x) rfl rfl rfl ((e20 l m s (some x) ⟨⟨hw, by have := (hg (by assumption)).1; omega⟩, (hg (by assumption)).2⟩).trans (congrArg (fun b => some (PV.bool b, [mbx x])) (by assumption))); done) | (first | omega | (exact absurd trivial (by assumption)) | contradiction | (simp_all; done); done)
          refine ⟨?_, ?_⟩
          · first | (exact pcallv_f0 rfl rfl rfl (e16_ l m s none trivial); done) | (exact pcallv_img (i := 1) (x := x) (x' := x) rfl rfl rfl (e16_ l m s (some x) ⟨(hg (by assumption)).2, by assumption⟩); done) | (first | omega | (exact absurd trivial (by assumption)) | contradiction | (simp_all; done); done)
          refine ⟨?_, ?_⟩
          · first | (exact pcallv_f0 rfl rfl rfl (e19 l m s none trivial); done) | (exact pcallv_img (i := 1) (x := x) (x' := x) rfl rfl rfl (e19 l m s (some x) ⟨⟨(hg (by assumption)).2, by assumption⟩, hd⟩); done) | (first | omega | (exact absurd trivial (by assumption)) | contradiction | (simp_all; done); done)
          refine ⟨?_, ?_⟩
          · first | (exact pcallv_f0 rfl rfl rfl (e16_ l m s none trivial); done) | (exact pcallv_img (i := 1) (x := x) (x' := x) rfl rfl rfl (e16_ l m s (some x) ⟨(hg (by assumption)).2, by assumption⟩); done) | (first | omega | (exact absurd trivial (by assumption)) | contradiction | (simp_all; done); done)
          refine ⟨?_, ?_⟩
          · first | (exact pcallv_f0 rfl rfl rfl (e19 l m s none trivial); done) | (exact pcallv_img (i := 1) (x := x) (x' := x) rfl rfl rfl (e19 l m s (some x) ⟨⟨(hg (by assumption)).2, by assumption⟩, hd⟩); done) | (first | omega | (exact absurd trivial (by assumption)) | contradiction | (simp_all; done); done)
          refine ⟨fun h5 => ?_, fun h5 => ?_⟩
          · have g5 := of_decide_eq_true h5
            try simp only [List.length_map] at g5
            refine ⟨?_, ?_⟩
            · first | (exact pcallD_iso rfl rfl ((e17 x (.full x) (hg (by assumption)).2).trans (congrArg (fun b => some (PV.bool b)) (decide_eq_true rfl))); done) | (first | omega | (exact absurd trivial (by assumption)) | contradiction | (simp_all; done); done)
            first | (exact fin_b rfl; done) | (first | omega | (exact absurd trivial (by assumption)) | contradiction | (simp_all; done); done)
          · have g5 := of_decide_eq_false h5
            try simp only [List.length_map] at g5
            refine ⟨?_, ?_⟩
            · first | (exact pcallD_iso rfl rfl ((e17 x (.full x) (hg (by assumption)).2).trans (congrArg (fun b => some (PV.bool b)) (decide_eq_true rfl))); done) | (first | omega | (exact absurd trivial (by assumption)) | contradiction | (simp_all; done); done)
            first | (exact fin_b rfl; done) | (first | omega | (exact absurd trivial (by assumption)) | contradiction | (simp_all; done); done)
    · have g1 := beq_eq_false_iff_ne.1 h1
      try simp only [List.length_map] at g1
      refine ⟨?_, ?_⟩
      · first | (exact pcallv_iso rfl rfl (by rw [← h1]; exact e25 _ _ _ ⟨hw, by have := (hg (by assumption)).1; omega⟩); done) | (exact pcallv_iso rfl rfl (e25 _ _ _ ⟨hw, by have := (hg (by assumption)).1; omega⟩); done) | (first | omega | (exact absurd trivial (by assumption)) | contradiction | (simp_all; done); done)
      refine ⟨?_, ?_⟩
      · first | (exact pcallv_iso rfl rfl (e12); done) | (first | omega | (exact absurd trivial (by assumption)) | contradiction | (simp_all; done); done)
      first | (exact fin_b rfl; done) | (first | omega | (exact absurd trivial (by assumption)) | contradiction | (simp_all; done); done)
end Go.Proofs.YtfhojpnofmlkdaaDoor
