/- The reader of bytes, by what it answers. -/
import Derived.Test.YtmkpdbofhpffaaaSa
namespace Go.Proofs.Ytmkpdbofhpffaaa
open Go.Proofs.Ytmkpdbofhpffaaa.Pv Go.RowKit
set_option maxRecDepth 100000
set_option maxHeartbeats 4000000
set_option linter.unusedSimpArgs false
set_option linter.unusedVariables false
set_option maxHeartbeats 2000000
theorem rd_inj {a b : List Int} {e f : Int} : rd a e = rd b f ↔ a = b ∧ e = f := ⟨fun h => by unfold rd at h; simp only [Pv.Box.mk.injEq, List.cons.injEq, PV.lst.injEq, PV.int.injEq, true_and, and_true] at h; exact ⟨u8_inj h.1, h.2⟩, fun h => by rw [h.1, h.2]⟩
theorem bts_inj {a b : List Int} : bts a = bts b ↔ a = b := ⟨fun h => by unfold bts at h; simp only [PV.lst.injEq, true_and] at h; exact u8_inj h, fun h => by rw [h]⟩
theorem bw_rd {m : Nat → Option Nat} {hp : List Pv.Box} {l l' : List Int} {e e' : Int} (h : l = l') (h' : e = e') : BW m hp ⟨2, [.lst 1 (List.map U8 l), .int .i64 e], 0⟩ ⟨2, [.lst 1 (List.map U8 l'), .int .i64 e'], 0⟩ := by
  subst h; subst h'
  exact BW.flat rfl (fun c hc => by simp only [List.mem_cons, List.not_mem_nil, or_false] at hc; rcases hc with rfl | rfl; exact NB.lst _ _; exact NB.int _ _)
theorem vw_bts {m : Nat → Option Nat} {hp : List Pv.Box} {l l' : List Int} (h : l = l') : VW m hp (.lst 1 (List.map U8 l)) (bts l') := by subst h; exact VW.lst rfl rfl
theorem vw_btn {m : Nat → Option Nat} {hp : List Pv.Box} {l' : List Int} (h : l' = []) : VW m hp .nils (bts l') := by subst h; exact VW.nl 1 rfl
theorem vw_int {m : Nat → Option Nat} {hp : List Pv.Box} {l l' : List Int} (h : l = l') : VW m hp (.lst 1 (List.map I l)) (ints l') := by subst h; exact VW.lst rfl rfl
theorem fl_ne {e f : Int} (h : f ≠ 0) : fl e f ≠ 0 := by unfold fl; split <;> simp_all
theorem fl_nz {e f : Int} (h : e ≠ 0) : fl e f = e := by unfold fl; rw [if_neg h]
theorem fl_z {f : Int} : fl 0 f = f := rfl
theorem bE_gt {l : List Int} {e n : Int} (h : n > (l.length : Int)) : bE l e n = fl e 4 ∧ bR l e n = [] ∧ bL l e n = l := by
  have e1 : bE l e n = fl e 4 := by unfold bE; rw [if_pos h]
  refine ⟨e1, ?_, ?_⟩
  · unfold bR; rw [e1, if_neg (fl_ne (by decide))]
  · unfold bL; rw [e1, if_neg (fl_ne (by decide))]
theorem bE_ne {l : List Int} {e n : Int} (h : ¬ n > (l.length : Int)) (he : e ≠ 0) : bE l e n = e ∧ bR l e n = [] ∧ bL l e n = l := by
  have e1 : bE l e n = e := by unfold bE; rw [if_neg h]
  refine ⟨e1, ?_, ?_⟩
  · unfold bR; rw [e1, if_neg he]
  · unfold bL; rw [e1, if_neg he]
theorem bE_ok {l : List Int} {n : Int} (h : ¬ n > (l.length : Int)) : bE l 0 n = 0 ∧ bR l 0 n = l.take n.toNat ∧ bL l 0 n = l.drop n.toNat := by
  have e1 : bE l 0 n = 0 := by unfold bE; rw [if_neg h]
  refine ⟨e1, ?_, ?_⟩
  · unfold bR; rw [e1, if_pos rfl]
  · unfold bL; rw [e1, if_pos rfl]
theorem px55 {l : List Int} {i : Nat} {hp : List Pv.Box} (h : i < l.length) : (pidx Try.prog 55 (.lst 1 (l.map U8)) (.int .i64 (i : Int))).map (fun v => (v, hp)) = some (.cptr [.int .u8 (List.getD l i 0)], hp) := px_map Try.underlying55 sz5 h rfl
theorem sl_hi {l : List Int} {n : Int} {hp : List Pv.Box} (h0 : 0 ≤ n) (h : n ≤ l.length) : (pslice Try.prog 55 (.lst 1 (l.map U8)) none (some (.int .i64 n)) none).map (fun v => (v, hp)) = some (.lst 1 (List.map U8 (l.take n.toNat)), hp) := by
  rw [pslice_hi Try.underlying55 sz5 h0 (by rw [List.length_map]; exact h), List.map_take]
theorem sl_lo {l : List Int} {n : Int} {hp : List Pv.Box} (h0 : 0 ≤ n) (h : n ≤ l.length) : (pslice Try.prog 55 (.lst 1 (l.map U8)) (some (.int .i64 n)) none none).map (fun v => (v, hp)) = some (.lst 1 (List.map U8 (l.drop n.toNat)), hp) := by
  rw [pslice_lo Try.underlying55 sz5 h0 (by rw [List.length_map]; exact h), List.map_drop]
theorem B8.take {l : List Int} (h : B8 l) (n : Nat) : B8 (l.take n) := fun x hx => h x (List.mem_of_mem_take hx)
theorem B8.drop {l : List Int} (h : B8 l) (n : Nat) : B8 (l.drop n) := fun x hx => h x (List.mem_of_mem_drop hx)
theorem B8.bR {l : List Int} (h : B8 l) (e n : Int) : B8 (bR l e n) := by unfold Ytmkpdbofhpffaaa.bR; split; exact h.take _; exact fun x hx => by simp at hx
theorem B8.bL {l : List Int} (h : B8 l) (e n : Int) : B8 (bL l e n) := by unfold Ytmkpdbofhpffaaa.bL; split; exact h.drop _; exact h
theorem bL_len (l : List Int) (e n : Int) : (bL l e n).length ≤ l.length := by unfold bL; split <;> simp
theorem bR_len (l : List Int) (e n : Int) : (bR l e n).length ≤ l.length := by unfold bR; split <;> simp <;> omega
theorem beN_app (x : List Int) (c : Int) : beN (x ++ [c]) = beN x * 256 + c := by unfold beN; rw [List.foldl_append]; rfl
theorem be_succ {l : List Int} {i : Nat} (hb : B8 l) (h : i < l.length) : IntKind.wrap .i64 (((BitVec.ofInt 64 (IntKind.wrap .i64 (be (l.take i) * 256)) ||| BitVec.ofInt 64 (IntKind.wrap .i64 (l.getD i 0))).toNat : Nat) : Int) = be (l.take (i + 1)) := by
  have hg : l.getD i 0 = l[i] := by rw [List.getD_eq_getElem?_getD, List.getElem?_eq_getElem h]; rfl
  unfold be
  rw [or64 _ _ (by rw [hg]; exact hb _ (List.getElem_mem h)), List.take_add_one, List.getElem?_eq_getElem h, hg]
  simp only [Option.toList_some]
  rw [beN_app]
theorem shl_eq {x : Int} {hp : List Pv.Box} : (pbin Try.prog BinOp.shl 3 false (.int .i64 x) (.int .u64 8)).map (fun v => (v, hp)) = some (.int .i64 (IntKind.wrap .i64 (x * 256)), hp) := rfl
theorem nums_succ (l : List Int) (i : Nat) : nums l (i + 1) = nums l i ++ [num l i] := by unfold nums; rw [List.range_succ, List.map_append]; rfl
theorem nums_len (l : List Int) (i : Nat) : (nums l i).length = i := by unfold nums; simp
theorem z3 : zeroP Try.prog 3 = some [.int .i64 0] := by kernel_rfl
theorem bytes3 {n : Nat} (h : n ≤ 4294967296) : bytesOk Try.prog 3 n = true := bytes_ok (by kernel_rfl) h
theorem sh64  (l : List Int) (e : Int) (f : Int)  : Sh Try.prog X.G 64 [.ptr 0 0, .int .i64 f] [rd l e] (.tup []) ([rd l (fl e f)]) := by
  obtain ⟨iso, shr, hC⟩ : ∃ iso shr, OrcOk Try.prog X.G ⟨iso, shr, ownS X.sh, []⟩ := ⟨_, _, iso0⟩
  refine wfun_ok env hC fd64 (t64 iso shr l e f) ?_ hhS
  simp only [Holds]
  refine ⟨fun h0 => ?_, fun h0 => ?_⟩
  · have g0 := beq_iff_eq.1 h0
    try simp only [List.length_map] at g0
    (exact ⟨[], [0], rfl, trivial, ⟨VW.nb rfl rfl, trivial⟩, ⟨bw_rd rfl (by (subst g0; rfl)), trivial⟩⟩)
  · have g0 := beq_eq_false_iff_ne.1 h0
    try simp only [List.length_map] at g0
    exact ⟨[], [0], rfl, trivial, ⟨VW.nb rfl rfl, trivial⟩, ⟨bw_rd rfl (by (exact (fl_nz g0).symm)), trivial⟩⟩
theorem lb1 : ∃ (iso : Nat → List PV → Option PV) (shr : Nat → List PV → List Pv.Box → Option (PV × List Pv.Box)), OrcOk Try.prog X.G ⟨iso, shr, ownS X.sh, []⟩ ∧ (∀ (l : List Int) (e : Int) (f : Int), shr 64 [.ptr 0 0, .int .i64 f] [rd l e] = some (.tup [], [rd l (fl e f)])) := by
  obtain ⟨h64, e64, o64⟩ := entS_ex (fun q : (List Int) × (Int) × (Int) => True) (fun q => (([.ptr 0 0, .int .i64 (q.2.2)], [rd (q.1) (q.2.1)]), (.tup [], [rd (q.1) (fl (q.2.1) (q.2.2))]))) (fun a b h => by simp only [Prod.mk.injEq, List.cons.injEq, ints_inj, cells_inj, vars_inj, VD_inj, St_inj, PV.int.injEq, rd_inj, bts_inj, and_true, true_and] at h; simp only [h])
  have hT : TabOk Try.prog X.G [] := tn
  have hS : TabSOk Try.prog X.G [(64, h64)] := tkS (fun al hp r e' => by
    obtain ⟨a, ha, hb, rfl⟩ := o64 al hp r e'
    simp only [Prod.mk.injEq] at hb
    obtain ⟨rfl, rfl⟩ := hb
    exact sh64 (a.1) (a.2.1) (a.2.2)) tn'
  exact ⟨_, _, orcS hT hS, fun l e f  => e64 (l, e, f) trivial⟩
theorem sh68  (l : List Int) (e : Int) (n : Int) (hn : 0 ≤ n) : Sh Try.prog X.G 68 [.ptr 0 0, .int .i64 n] [rd l e] (bts (bR l e n)) ([rd (bL l e n) (bE l e n)]) := by
  obtain ⟨iso, shr, hC, e64⟩ := lb1
  refine wfun_ok env hC fd68 (t68 iso shr l e n) ?_ hhS
  simp only [Holds]
  refine ⟨fun h0 => ?_, fun h0 => ?_⟩
  · have g0 := of_decide_eq_true h0
    try simp only [List.length_map] at g0
    refine ⟨?_, ?_⟩
    · exact pcallv_ptr rfl rfl rfl rfl rfl rfl (e64 _ _ _)
    refine ⟨fun h1 => ?_, fun h1 => ?_⟩
    · have g1 := bne_iff_ne.1 h1
      try simp only [List.length_map] at g1
      exact ⟨[], [0], rfl, trivial, ⟨vw_btn (bE_gt g0).2.1, trivial⟩, ⟨bw_rd (bE_gt g0).2.2.symm (bE_gt g0).1.symm, trivial⟩⟩
    · have g1 := bne_eq_false_iff_eq.1 h1
      try simp only [List.length_map] at g1
      refine ⟨?_, ?_⟩
      · ((exact absurd (by assumption) (fl_ne (e := e) (f := 4) (by decide))))
      refine ⟨?_, ?_⟩
      · ((exact absurd (by assumption) (fl_ne (e := e) (f := 4) (by decide))))
      ((exact absurd (by assumption) (fl_ne (e := e) (f := 4) (by decide))))
  · have g0 := of_decide_eq_false h0
    try simp only [List.length_map] at g0
    refine ⟨fun h2 => ?_, fun h2 => ?_⟩
    · have g2 := bne_iff_ne.1 h2
      try simp only [List.length_map] at g2
      exact ⟨[], [0], rfl, trivial, ⟨vw_btn (bE_ne (by omega) (by assumption)).2.1, trivial⟩, ⟨bw_rd (bE_ne (by omega) (by assumption)).2.2.symm (bE_ne (by omega) (by assumption)).1.symm, trivial⟩⟩
    · have g2 := bne_eq_false_iff_eq.1 h2
      try simp only [List.length_map] at g2
      refine ⟨?_, ?_⟩
      · exact sl_hi (by omega) (by omega)
      refine ⟨?_, ?_⟩
      · exact sl_lo (by omega) (by omega)
      ((have hz : e = 0 := by omega); subst hz; exact ⟨[], [0], rfl, trivial, ⟨vw_bts (bE_ok (by omega)).2.1.symm, trivial⟩, ⟨bw_rd (bE_ok (by omega)).2.2.symm (bE_ok (by omega)).1.symm, trivial⟩⟩)
theorem lb2 : ∃ (iso : Nat → List PV → Option PV) (shr : Nat → List PV → List Pv.Box → Option (PV × List Pv.Box)), OrcOk Try.prog X.G ⟨iso, shr, ownS X.sh, []⟩ ∧ (∀ (l : List Int) (e : Int) (f : Int), shr 64 [.ptr 0 0, .int .i64 f] [rd l e] = some (.tup [], [rd l (fl e f)])) ∧ (∀ (l : List Int) (e : Int) (n : Int), 0 ≤ n → shr 68 [.ptr 0 0, .int .i64 n] [rd l e] = some (bts (bR l e n), [rd (bL l e n) (bE l e n)])) := by
  obtain ⟨h64, e64, o64⟩ := entS_ex (fun q : (List Int) × (Int) × (Int) => True) (fun q => (([.ptr 0 0, .int .i64 (q.2.2)], [rd (q.1) (q.2.1)]), (.tup [], [rd (q.1) (fl (q.2.1) (q.2.2))]))) (fun a b h => by simp only [Prod.mk.injEq, List.cons.injEq, ints_inj, cells_inj, vars_inj, VD_inj, St_inj, PV.int.injEq, rd_inj, bts_inj, and_true, true_and] at h; simp only [h])
  obtain ⟨h68, e68, o68⟩ := entS_ex (fun q : (List Int) × (Int) × (Int) => 0 ≤ (q.2.2)) (fun q => (([.ptr 0 0, .int .i64 (q.2.2)], [rd (q.1) (q.2.1)]), (bts (bR (q.1) (q.2.1) (q.2.2)), [rd (bL (q.1) (q.2.1) (q.2.2)) (bE (q.1) (q.2.1) (q.2.2))]))) (fun a b h => by simp only [Prod.mk.injEq, List.cons.injEq, ints_inj, cells_inj, vars_inj, VD_inj, St_inj, PV.int.injEq, rd_inj, bts_inj, and_true, true_and] at h; simp only [h])
  have hT : TabOk Try.prog X.G [] := tn
  have hS : TabSOk Try.prog X.G [(64, h64), (68, h68)] := tkS (fun al hp r e' => by
    obtain ⟨a, ha, hb, rfl⟩ := o64 al hp r e'
    simp only [Prod.mk.injEq] at hb
    obtain ⟨rfl, rfl⟩ := hb
    exact sh64 (a.1) (a.2.1) (a.2.2)) (tkS (fun al hp r e' => by
    obtain ⟨a, ha, hb, rfl⟩ := o68 al hp r e'
    simp only [Prod.mk.injEq] at hb
    obtain ⟨rfl, rfl⟩ := hb
    exact sh68 (a.1) (a.2.1) (a.2.2) ha) tn')
  exact ⟨_, _, orcS hT hS, fun l e f  => e64 (l, e, f) trivial, fun l e n hp => e68 (l, e, n) hp⟩
theorem sh50  (l : List Int) (e : Int)  : Sh Try.prog X.G 50 [.ptr 0 0] [rd l e] (.tup []) ([rd l (endE l e)]) := by
  obtain ⟨iso, shr, hC, e64⟩ := lb1
  refine wfun_ok env hC fd50 (t50 iso shr l e) ?_ hhS
  simp only [Holds]
  refine ⟨fun h0 => ?_, fun h0 => ?_⟩
  · have g0 := of_decide_eq_true h0
    try simp only [List.length_map] at g0
    refine ⟨?_, ?_⟩
    · exact pcallv_ptr rfl rfl rfl rfl rfl rfl (e64 _ _ _)
    (exact ⟨[], [0], rfl, trivial, ⟨VW.nb rfl rfl, trivial⟩, ⟨bw_rd rfl (by unfold endE; rw [if_pos (by omega)]), trivial⟩⟩)
  · have g0 := of_decide_eq_false h0
    try simp only [List.length_map] at g0
    (exact ⟨[], [0], rfl, trivial, ⟨VW.nb rfl rfl, trivial⟩, ⟨bw_rd rfl (by unfold endE; rw [if_neg (by omega)]), trivial⟩⟩)
def hd63 (l : List Int) (e : Int) (n : Int) (i : Nat) : PS := ⟨⟨23, [(12, .int .i64 ((i : Nat) : Int)), (5, .int .i64 (be ((bR l e n).take i))), (10, bts (bR l e n)), (11, .int .i64 (List.length (bR l e n) : Int))]⟩, [rd (bL l e n) (bE l e n)]⟩
def en63 (l : List Int) (e : Int) (n : Int) : PS := ⟨⟨23, [(5, .int .i64 (be (bR l e n)))]⟩, [rd (bL l e n) (bE l e n)]⟩
theorem lp63 (iso : Nat → List PV → Option PV) (shr : Nat → List PV → List Pv.Box → Option (PV × List Pv.Box)) (hC : OrcOk Try.prog X.G ⟨iso, shr, ownS X.sh, []⟩)  (l : List Int) (e : Int) (n : Int) (hn : 0 ≤ n) (hb : B8 l) (hl : l.length ≤ LB) : LoopOk Try.prog X.G 1 (lpB Try.f63 3) (hd63 l e n 0) (.exit 0) (en63 l e n) := by
  refine (loop_first (S := hd63 l e n) (m := (bR l e n).length) (c := fun _ => true) (e1 := fun i => (.ret, hd63 l e n i)) (e2 := (.exit 0, en63 l e n)) (fun i hi _ ep sp nx => ?_) (fun i hi hc => by cases hc) ?_).1 (fun _ _ => rfl)
  · refine round_ok env.mixed hC (by kernel_rfl) (r63 iso shr l e n i) ?_
    simp only [Holds, Pv.Next]
    have hbb := hb.bR e n
    have hll := bR_len l e n
    rw [LB_eq] at hl
    refine ⟨fun h0 => ?_, fun h0 => ?_⟩
    · have g0 := of_decide_eq_true h0
      try simp only [List.length_map] at g0
      refine ⟨?_, ?_⟩
      · exact px55 (by omega)
      refine ⟨?_, ?_⟩
      · exact shl_eq
      refine ⟨?_, ?_⟩
      · exact ⟨trivial, (by trivial), ⟨(by exact VW.int (wsucc (by omega))), (by exact VW.int (be_succ hbb hi)), (by exact VW.lst rfl rfl), (by exact VW.int rfl), trivial⟩, ⟨(by exact bw_rd rfl rfl), trivial⟩⟩
      exact nx
    · have g0 := of_decide_eq_false h0
      try simp only [List.length_map] at g0
      refine ⟨by trivial, ?_⟩
      refine ⟨?_, ?_⟩
      · (omega)
      (omega)
  · refine round_ok env.mixed hC (by kernel_rfl) (r63 iso shr l e n ((bR l e n).length)) ?_
    simp only [Holds, Pv.Next]
    have hbb := hb.bR e n
    have hll := bR_len l e n
    rw [LB_eq] at hl
    refine ⟨fun h0 => ?_, fun h0 => ?_⟩
    · have g0 := of_decide_eq_true h0
      try simp only [List.length_map] at g0
      refine ⟨?_, ?_⟩
      · exact px55 (by omega)
      refine ⟨?_, ?_⟩
      · exact shl_eq
      refine ⟨?_, ?_⟩
      · (omega)
      (omega)
    · have g0 := of_decide_eq_false h0
      try simp only [List.length_map] at g0
      refine ⟨by trivial, ?_⟩
      refine ⟨?_, ?_⟩
      · exact ⟨trivial, (by trivial), ⟨(by exact VW.int (by (rw [List.take_length]))), trivial⟩, ⟨(by exact bw_rd rfl rfl), trivial⟩⟩
      exact ⟨trivial, rfl⟩
theorem sh63  (l : List Int) (e : Int) (n : Int) (hn : 0 ≤ n) (hb : B8 l) (hl : l.length ≤ LB) : Sh Try.prog X.G 63 [.ptr 0 0, .int .i64 n] [rd l e] (.int .i64 (be (bR l e n))) ([rd (bL l e n) (bE l e n)]) := by
  obtain ⟨iso, shr, hC, e64, e68⟩ := lb2
  refine wfun_ok env hC fd63 (t63 iso shr l e n) ?_ hhS
  simp only [Holds]
  refine ⟨?_, ?_⟩
  · exact pcallv_ptr rfl rfl rfl rfl rfl rfl (e68 _ _ _ hn)
  refine ⟨?_, ?_⟩
  · exact ⟨trivial, (by trivial), ⟨(by exact VW.int (by simp)), (by exact VW.int rfl), (by exact VW.lst rfl rfl), (by exact VW.int (by simp)), trivial⟩, ⟨(by exact bw_rd rfl rfl), trivial⟩⟩
  refine ⟨?_, ?_⟩
  · exact lp63 iso shr hC l e n hn hb hl
  exact ⟨[], [0], rfl, trivial, ⟨VW.int rfl, trivial⟩, ⟨bw_rd rfl rfl, trivial⟩⟩
theorem lb3 : ∃ (iso : Nat → List PV → Option PV) (shr : Nat → List PV → List Pv.Box → Option (PV × List Pv.Box)), OrcOk Try.prog X.G ⟨iso, shr, ownS X.sh, []⟩ ∧ (∀ (l : List Int) (e : Int) (f : Int), shr 64 [.ptr 0 0, .int .i64 f] [rd l e] = some (.tup [], [rd l (fl e f)])) ∧ (∀ (l : List Int) (e : Int) (n : Int), 0 ≤ n ∧ B8 l ∧ l.length ≤ LB → shr 63 [.ptr 0 0, .int .i64 n] [rd l e] = some (.int .i64 (be (bR l e n)), [rd (bL l e n) (bE l e n)])) := by
  obtain ⟨h64, e64, o64⟩ := entS_ex (fun q : (List Int) × (Int) × (Int) => True) (fun q => (([.ptr 0 0, .int .i64 (q.2.2)], [rd (q.1) (q.2.1)]), (.tup [], [rd (q.1) (fl (q.2.1) (q.2.2))]))) (fun a b h => by simp only [Prod.mk.injEq, List.cons.injEq, ints_inj, cells_inj, vars_inj, VD_inj, St_inj, PV.int.injEq, rd_inj, bts_inj, and_true, true_and] at h; simp only [h])
  obtain ⟨h63, e63, o63⟩ := entS_ex (fun q : (List Int) × (Int) × (Int) => 0 ≤ (q.2.2) ∧ B8 (q.1) ∧ (q.1).length ≤ LB) (fun q => (([.ptr 0 0, .int .i64 (q.2.2)], [rd (q.1) (q.2.1)]), (.int .i64 (be (bR (q.1) (q.2.1) (q.2.2))), [rd (bL (q.1) (q.2.1) (q.2.2)) (bE (q.1) (q.2.1) (q.2.2))]))) (fun a b h => by simp only [Prod.mk.injEq, List.cons.injEq, ints_inj, cells_inj, vars_inj, VD_inj, St_inj, PV.int.injEq, rd_inj, bts_inj, and_true, true_and] at h; simp only [h])
  have hT : TabOk Try.prog X.G [] := tn
  have hS : TabSOk Try.prog X.G [(64, h64), (63, h63)] := tkS (fun al hp r e' => by
    obtain ⟨a, ha, hb, rfl⟩ := o64 al hp r e'
    simp only [Prod.mk.injEq] at hb
    obtain ⟨rfl, rfl⟩ := hb
    exact sh64 (a.1) (a.2.1) (a.2.2)) (tkS (fun al hp r e' => by
    obtain ⟨a, ha, hb, rfl⟩ := o63 al hp r e'
    simp only [Prod.mk.injEq] at hb
    obtain ⟨rfl, rfl⟩ := hb
    exact sh63 (a.1) (a.2.1) (a.2.2) ha.1 ha.2.1 ha.2.2) tn')
  exact ⟨_, _, orcS hT hS, fun l e f  => e64 (l, e, f) trivial, fun l e n hp => e63 (l, e, n) hp⟩
theorem st_ok {l : List Int} {i : Nat} (h : 8 * (i + 1) ≤ l.length) : bE (l.drop (8 * i)) 0 8 = 0 ∧ be (bR (l.drop (8 * i)) 0 8) = num l i ∧ bL (l.drop (8 * i)) 0 8 = l.drop (8 * (i + 1)) := by
  obtain ⟨h1, h2, h3⟩ := bE_ok (l := l.drop (8 * i)) (n := 8) (by rw [List.length_drop]; omega)
  refine ⟨h1, by rw [h2]; rfl, ?_⟩
  rw [h3, List.drop_drop]
  congr 1
theorem st_no {l : List Int} {e : Int} {i : Nat} (h : ¬ (e = 0 ∧ 8 * (i + 1) ≤ l.length)) : bE (l.drop (8 * i)) e 8 = fl e 4 ∧ bL (l.drop (8 * i)) e 8 = l.drop (8 * i) := by
  by_cases h1 : (8 : Int) > ((l.drop (8 * i)).length : Int)
  · exact ⟨(bE_gt h1).1, (bE_gt h1).2.2⟩
  · have he : e ≠ 0 := fun he => h ⟨he, by rw [List.length_drop] at h1; omega⟩
    exact ⟨(bE_ne h1 he).1.trans (fl_nz he).symm, (bE_ne h1 he).2.2⟩
theorem app49 {bx lit : Pv.Box} {A A' : List Int} {b : Int} (hA : A' = A ++ [b]) (hl : A.length ≤ 4000000000) (hlit : lit = ⟨1, [I b], 0⟩) :
    pappM true Try.prog [bx, tik 1 (A.length * 1), lit] (List.length [bx, tik 1 (A.length * 1), (lit : Pv.Box)]) 23 23 (.own 1 1 (List.map I A)) (.sl 2 1 0 1) = some (.own 3 1 (List.map I A'), [bx, dead, lit, tik 1 (A'.length * 1)]) := by
  subst hA
  subst hlit
  have h := pappO_own (P := Try.prog) (hp := [bx, tik 1 (A.length * 1), ⟨1, [I b], 0⟩]) (T := 23) (X := 23) (i := 1) (es := List.map I A) (t := .sl 2 1 0 1) Try.underlying23 Try.underlying23 sz3 z3 rfl (by decide) (telems_one (by rfl) rfl rfl) (by rfl) (by rfl) (by simp) (bytes3 (by simp; omega))
  rw [h]
  simp only [List.length_map, List.map_append, List.length_append, List.map_cons, List.map_nil]
  rfl
def hd49 (l : List Int) (e : Int) (n : Int) (i : Nat) : PS := ⟨⟨23, [(8, .int .i64 ((i : Nat) : Int)), (5, .own 1 1 (List.map I (nums l i))), (0, .ptr 0 0), (7, .int .i64 n)]⟩, [rd (l.drop (8 * i)) e, tik 1 ((nums l i).length * 1)]⟩
def en49 (l : List Int) (e : Int) (n : Int) : PS := ⟨⟨23, [(5, ints (nums l n.toNat))]⟩, [rd (l.drop (8 * n.toNat)) e]⟩
theorem lp49 (iso : Nat → List PV → Option PV) (shr : Nat → List PV → List Pv.Box → Option (PV × List Pv.Box)) (hC : OrcOk Try.prog X.G ⟨iso, shr, ownS X.sh, []⟩) (e63 : ∀ (l : List Int) (e : Int) (n : Int), 0 ≤ n ∧ B8 l ∧ l.length ≤ LB → shr 63 [.ptr 0 0, .int .i64 n] [rd l e] = some (.int .i64 (be (bR l e n)), [rd (bL l e n) (bE l e n)])) (l : List Int) (e : Int) (n : Int) (hb : B8 l) (hl : l.length ≤ LB) : ((∀ j, j < n.toNat → decide (e = 0 ∧ 8 * (j + 1) ≤ l.length) = true) → LoopOk Try.prog X.G 1 (lpB Try.f49 3) (hd49 l e n 0) (.exit 0) (en49 l e n)) ∧ (∀ j, j < n.toNat → decide (e = 0 ∧ 8 * (j + 1) ≤ l.length) = false → (∀ k, k < j → decide (e = 0 ∧ 8 * (k + 1) ≤ l.length) = true) → LoopOk Try.prog X.G 1 (lpB Try.f49 3) (hd49 l e n 0) .ret ⟨⟨23, [(4, ints [])]⟩, [rd (l.drop (8 * j)) (fl e 4)]⟩) := by
  refine loop_first (S := hd49 l e n) (c := fun i => decide (e = 0 ∧ 8 * (i + 1) ≤ l.length)) (e1 := fun i => (.ret, ⟨⟨23, [(4, ints [])]⟩, [rd (l.drop (8 * i)) (fl e 4)]⟩)) (e2 := (.exit 0, en49 l e n)) (fun i hi hc ep sp nx => ?_) (fun i hi hc => ?_) ?_
  · refine round_ok env.mixed hC (by kernel_rfl) (r49 iso shr l e n i) ?_
    simp only [Holds, Pv.Next]
    rw [LB_eq] at hl
    have hnl := nums_len l i
    have hns := nums_succ l i
    have hB : B8 (l.drop (8 * i)) ∧ (l.drop (8 * i)).length ≤ LB := ⟨hb.drop _, by rw [LB_eq, List.length_drop]; omega⟩
    try simp only [decide_eq_true_eq, decide_eq_false_iff_not] at hc
    (obtain ⟨hz, hc2⟩ := hc; subst hz; obtain ⟨s1, s2, s3⟩ := st_ok hc2)
    refine ⟨fun h0 => ?_, fun h0 => ?_⟩
    · have g0 := of_decide_eq_true h0
      try simp only [List.length_map] at g0
      refine ⟨?_, ?_⟩
      · exact pcallv_ptr rfl rfl rfl rfl rfl rfl (e63 _ _ _ ⟨by decide, hB.1, hB.2⟩)
      refine ⟨fun h1 => ?_, fun h1 => ?_⟩
      · have g1 := bne_iff_ne.1 h1
        try simp only [List.length_map] at g1
        refine ⟨by trivial, ?_⟩
        refine ⟨?_, ?_⟩
        · (omega)
        trivial
      · have g1 := bne_eq_false_iff_eq.1 h1
        try simp only [List.length_map] at g1
        refine ⟨?_, ?_⟩
        · exact app49 (by rw [hns, s2]) (by omega) rfl
        refine ⟨?_, ?_⟩
        · exact ⟨trivial, (by trivial), ⟨(by exact VW.int (wsucc (by omega))), (by exact VW.own rfl rfl rfl), (by exact VW.ptr rfl rfl), (by exact VW.int rfl), trivial⟩, ⟨(by exact bw_rd s3 s1), (by exact BW.tik rfl rfl), trivial⟩⟩
        exact nx
    · have g0 := of_decide_eq_false h0
      try simp only [List.length_map] at g0
      refine ⟨by trivial, ?_⟩
      refine ⟨?_, ?_⟩
      · (omega)
      (omega)
  · refine round_ok env.mixed hC (by kernel_rfl) (r49 iso shr l e n i) ?_
    simp only [Holds, Pv.Next]
    rw [LB_eq] at hl
    have hnl := nums_len l i
    have hns := nums_succ l i
    have hB : B8 (l.drop (8 * i)) ∧ (l.drop (8 * i)).length ≤ LB := ⟨hb.drop _, by rw [LB_eq, List.length_drop]; omega⟩
    try simp only [decide_eq_true_eq, decide_eq_false_iff_not] at hc
    (obtain ⟨s1, s3⟩ := st_no hc; have s4 := fl_ne (e := e) (f := 4) (by decide))
    refine ⟨fun h0 => ?_, fun h0 => ?_⟩
    · have g0 := of_decide_eq_true h0
      try simp only [List.length_map] at g0
      refine ⟨?_, ?_⟩
      · exact pcallv_ptr rfl rfl rfl rfl rfl rfl (e63 _ _ _ ⟨by decide, hB.1, hB.2⟩)
      refine ⟨fun h1 => ?_, fun h1 => ?_⟩
      · have g1 := bne_iff_ne.1 h1
        try simp only [List.length_map] at g1
        refine ⟨by trivial, ?_⟩
        refine ⟨?_, ?_⟩
        · exact ⟨trivial, (by trivial), ⟨(by exact VW.nl 1 rfl), trivial⟩, ⟨(by exact bw_rd s3 s1), trivial⟩⟩
        exact ⟨trivial, rfl⟩
      · have g1 := bne_eq_false_iff_eq.1 h1
        try simp only [List.length_map] at g1
        refine ⟨?_, ?_⟩
        · (omega)
        refine ⟨?_, ?_⟩
        · (omega)
        (omega)
    · have g0 := of_decide_eq_false h0
      try simp only [List.length_map] at g0
      refine ⟨by trivial, ?_⟩
      refine ⟨?_, ?_⟩
      · (omega)
      (omega)
  · refine round_ok env.mixed hC (by kernel_rfl) (r49 iso shr l e n (n.toNat)) ?_
    simp only [Holds, Pv.Next]
    rw [LB_eq] at hl
    have hnl := nums_len l (n.toNat)
    have hns := nums_succ l (n.toNat)
    have hB : B8 (l.drop (8 * (n.toNat))) ∧ (l.drop (8 * (n.toNat))).length ≤ LB := ⟨hb.drop _, by rw [LB_eq, List.length_drop]; omega⟩
    refine ⟨fun h0 => ?_, fun h0 => ?_⟩
    · have g0 := of_decide_eq_true h0
      try simp only [List.length_map] at g0
      refine ⟨?_, ?_⟩
      · exact pcallv_ptr rfl rfl rfl rfl rfl rfl (e63 _ _ _ ⟨by decide, hB.1, hB.2⟩)
      refine ⟨fun h1 => ?_, fun h1 => ?_⟩
      · have g1 := bne_iff_ne.1 h1
        try simp only [List.length_map] at g1
        refine ⟨by trivial, ?_⟩
        refine ⟨?_, ?_⟩
        · (omega)
        (omega)
      · have g1 := bne_eq_false_iff_eq.1 h1
        try simp only [List.length_map] at g1
        refine ⟨?_, ?_⟩
        · (omega)
        refine ⟨?_, ?_⟩
        · (omega)
        (omega)
    · have g0 := of_decide_eq_false h0
      try simp only [List.length_map] at g0
      refine ⟨by trivial, ?_⟩
      refine ⟨?_, ?_⟩
      · exact ⟨trivial, (by trivial), ⟨(by exact VW.ol rfl rfl), trivial⟩, ⟨(by exact bw_rd rfl rfl), trivial⟩⟩
      exact ⟨trivial, rfl⟩
theorem nR_all {l : List Int} {e n : Int} (h : ∀ j, j < n.toNat → decide (e = 0 ∧ 8 * (j + 1) ≤ l.length) = true) : nums l n.toNat = nR l e n.toNat ∧ l.drop (8 * n.toNat) = nL l e n.toNat ∧ e = nE l e n.toNat := by
  rcases Nat.eq_zero_or_pos n.toNat with h0 | h0
  · rw [h0]; unfold nR nL nE
    refine ⟨?_, ?_, ?_⟩
    · split <;> rfl
    · split <;> simp
    · split <;> simp_all
  · have := of_decide_eq_true (h (n.toNat - 1) (by omega))
    obtain ⟨he, hk⟩ := this
    subst he
    have hk : 8 * n.toNat ≤ l.length := by omega
    unfold nR nL nE
    refine ⟨by rw [if_pos ⟨rfl, hk⟩], by rw [if_pos rfl, Nat.min_eq_left (by omega)], by rw [if_pos rfl, if_pos hk]⟩
theorem nR_stop {l : List Int} {e n : Int} {j : Nat} (hj : j < n.toNat) (h : decide (e = 0 ∧ 8 * (j + 1) ≤ l.length) = false) (h' : ∀ k, k < j → decide (e = 0 ∧ 8 * (k + 1) ≤ l.length) = true) : [] = nR l e n.toNat ∧ l.drop (8 * j) = nL l e n.toNat ∧ fl e 4 = nE l e n.toNat := by
  have h1 := of_decide_eq_false h
  unfold nR nL nE
  by_cases he : e = 0
  · subst he
    have h2 : ¬ 8 * (j + 1) ≤ l.length := fun hh => h1 ⟨rfl, hh⟩
    have h3 : 8 * j ≤ l.length := by
      rcases Nat.eq_zero_or_pos j with h0 | h0
      · omega
      · have := (of_decide_eq_true (h' (j - 1) (by omega))).2; omega
    refine ⟨by rw [if_neg (by omega)], by rw [if_pos rfl]; congr 1; omega, by rw [if_pos rfl, if_neg (by omega)]; rfl⟩
  · have : j = 0 := by
      rcases Nat.eq_zero_or_pos j with h0 | h0
      · exact h0
      · exact absurd (of_decide_eq_true (h' 0 h0)).1 he
    subst this
    refine ⟨by rw [if_neg (fun h => he h.1)], by rw [if_neg he]; rfl, by rw [if_neg he, fl_nz he]⟩
theorem sh49  (l : List Int) (e : Int) (n : Int) (hb : B8 l) (hl : l.length ≤ LB) : Sh Try.prog X.G 49 [.ptr 0 0, .int .i64 n] [rd l e] (ints (nR l e n.toNat)) ([rd (nL l e n.toNat) (nE l e n.toNat)]) := by
  obtain ⟨iso, shr, hC, e64, e63⟩ := lb3
  by_cases he : ∀ j, j < n.toNat → decide (e = 0 ∧ 8 * (j + 1) ≤ l.length) = true
  ·
    refine wfun_ok env hC fd49 (t49a iso shr l e n) ?_ hhS
    simp only [Holds]
    refine ⟨?_, ?_⟩
    · exact ⟨trivial, (by trivial), ⟨(by exact VW.int rfl), (by exact VW.no rfl), (by exact VW.ptr rfl rfl), (by exact VW.int rfl), trivial⟩, ⟨(by exact bw_rd rfl rfl), (by exact BW.flat rfl (fun c hc => by simp at hc)), trivial⟩⟩
    refine ⟨?_, ?_⟩
    · exact (lp49 iso shr hC e63 l e n hb hl).1 he
    exact ⟨[], [0], rfl, trivial, ⟨vw_int (nR_all he).1, trivial⟩, ⟨bw_rd (nR_all he).2.1 (nR_all he).2.2, trivial⟩⟩
  · obtain ⟨j, j1, j2, j3⟩ := first_false he
    refine wfun_ok env hC fd49 (t49b iso shr l e n j) ?_ hhS
    simp only [Holds]
    refine ⟨?_, ?_⟩
    · exact ⟨trivial, (by trivial), ⟨(by exact VW.int rfl), (by exact VW.no rfl), (by exact VW.ptr rfl rfl), (by exact VW.int rfl), trivial⟩, ⟨(by exact bw_rd rfl rfl), (by exact BW.flat rfl (fun c hc => by simp at hc)), trivial⟩⟩
    refine ⟨?_, ?_⟩
    · exact (lp49 iso shr hC e63 l e n hb hl).2 j j1 j2 j3
    exact ⟨[], [0], rfl, trivial, ⟨vw_int (nR_stop j1 j2 j3).1, trivial⟩, ⟨bw_rd (nR_stop j1 j2 j3).2.1 (nR_stop j1 j2 j3).2.2, trivial⟩⟩
theorem lb4 : ∃ (iso : Nat → List PV → Option PV) (shr : Nat → List PV → List Pv.Box → Option (PV × List Pv.Box)), OrcOk Try.prog X.G ⟨iso, shr, ownS X.sh, []⟩ ∧ (∀ (l : List Int) (e : Int) (f : Int), shr 64 [.ptr 0 0, .int .i64 f] [rd l e] = some (.tup [], [rd l (fl e f)])) ∧ (∀ (l : List Int) (e : Int) (n : Int), 0 ≤ n ∧ B8 l ∧ l.length ≤ LB → shr 63 [.ptr 0 0, .int .i64 n] [rd l e] = some (.int .i64 (be (bR l e n)), [rd (bL l e n) (bE l e n)])) ∧ (∀ (l : List Int) (e : Int) (n : Int), B8 l ∧ l.length ≤ LB → shr 49 [.ptr 0 0, .int .i64 n] [rd l e] = some (ints (nR l e n.toNat), [rd (nL l e n.toNat) (nE l e n.toNat)])) := by
  obtain ⟨h64, e64, o64⟩ := entS_ex (fun q : (List Int) × (Int) × (Int) => True) (fun q => (([.ptr 0 0, .int .i64 (q.2.2)], [rd (q.1) (q.2.1)]), (.tup [], [rd (q.1) (fl (q.2.1) (q.2.2))]))) (fun a b h => by simp only [Prod.mk.injEq, List.cons.injEq, ints_inj, cells_inj, vars_inj, VD_inj, St_inj, PV.int.injEq, rd_inj, bts_inj, and_true, true_and] at h; simp only [h])
  obtain ⟨h63, e63, o63⟩ := entS_ex (fun q : (List Int) × (Int) × (Int) => 0 ≤ (q.2.2) ∧ B8 (q.1) ∧ (q.1).length ≤ LB) (fun q => (([.ptr 0 0, .int .i64 (q.2.2)], [rd (q.1) (q.2.1)]), (.int .i64 (be (bR (q.1) (q.2.1) (q.2.2))), [rd (bL (q.1) (q.2.1) (q.2.2)) (bE (q.1) (q.2.1) (q.2.2))]))) (fun a b h => by simp only [Prod.mk.injEq, List.cons.injEq, ints_inj, cells_inj, vars_inj, VD_inj, St_inj, PV.int.injEq, rd_inj, bts_inj, and_true, true_and] at h; simp only [h])
  obtain ⟨h49, e49, o49⟩ := entS_ex (fun q : (List Int) × (Int) × (Int) => B8 (q.1) ∧ (q.1).length ≤ LB) (fun q => (([.ptr 0 0, .int .i64 (q.2.2)], [rd (q.1) (q.2.1)]), (ints (nR (q.1) (q.2.1) (q.2.2).toNat), [rd (nL (q.1) (q.2.1) (q.2.2).toNat) (nE (q.1) (q.2.1) (q.2.2).toNat)]))) (fun a b h => by simp only [Prod.mk.injEq, List.cons.injEq, ints_inj, cells_inj, vars_inj, VD_inj, St_inj, PV.int.injEq, rd_inj, bts_inj, and_true, true_and] at h; simp only [h])
  have hT : TabOk Try.prog X.G [] := tn
  have hS : TabSOk Try.prog X.G [(64, h64), (63, h63), (49, h49)] := tkS (fun al hp r e' => by
    obtain ⟨a, ha, hb, rfl⟩ := o64 al hp r e'
    simp only [Prod.mk.injEq] at hb
    obtain ⟨rfl, rfl⟩ := hb
    exact sh64 (a.1) (a.2.1) (a.2.2)) (tkS (fun al hp r e' => by
    obtain ⟨a, ha, hb, rfl⟩ := o63 al hp r e'
    simp only [Prod.mk.injEq] at hb
    obtain ⟨rfl, rfl⟩ := hb
    exact sh63 (a.1) (a.2.1) (a.2.2) ha.1 ha.2.1 ha.2.2) (tkS (fun al hp r e' => by
    obtain ⟨a, ha, hb, rfl⟩ := o49 al hp r e'
    simp only [Prod.mk.injEq] at hb
    obtain ⟨rfl, rfl⟩ := hb
    exact sh49 (a.1) (a.2.1) (a.2.2) ha.1 ha.2) tn'))
  exact ⟨_, _, orcS hT hS, fun l e f  => e64 (l, e, f) trivial, fun l e n hp => e63 (l, e, n) hp, fun l e n hp => e49 (l, e, n) hp⟩
theorem sh48  (l : List Int) (e : Int) (n : Int) (hb : B8 l) (hl : l.length ≤ LB) : Sh Try.prog X.G 48 [.ptr 0 0, .int .i64 n] [rd l e] (ints (qR l e n)) ([rd (qL l e n) (qE l e n)]) := by
  obtain ⟨iso, shr, hC, e64, e63, e49⟩ := lb4
  have hB : B8 (bL l e 2) ∧ (bL l e 2).length ≤ LB := ⟨hb.bL e 2, Nat.le_trans (bL_len l e 2) hl⟩
  have q1 : be (bR l e 2) > n → lE l e n = fl (bE l e 2) 5 := fun h => by unfold lE lN; rw [if_pos h]
  have q2 : ¬ be (bR l e 2) > n → lE l e n = bE l e 2 := fun h => by unfold lE lN; rw [if_neg h]
  refine wfun_ok env hC fd48 (t48 iso shr l e n) ?_ hhS
  simp only [Holds]
  refine ⟨?_, ?_⟩
  · exact pcallv_ptr rfl rfl rfl rfl rfl rfl (e63 _ _ _ ⟨by decide, hb, hl⟩)
  refine ⟨fun h0 => ?_, fun h0 => ?_⟩
  · have g0 := of_decide_eq_true h0
    try simp only [List.length_map] at g0
    refine ⟨?_, ?_⟩
    · exact pcallv_ptr rfl rfl rfl rfl rfl rfl (e64 _ _ _)
    refine ⟨?_, ?_⟩
    · exact pcallv_ptr rfl rfl rfl rfl rfl rfl (e49 _ _ _ hB)
    ((have q := q1 (by assumption)); exact ⟨[], [0], rfl, trivial, ⟨vw_int (by unfold qR; rw [q]; rfl), trivial⟩, ⟨bw_rd (by unfold qL; rw [q]; rfl) (by unfold qE; rw [q]; rfl), trivial⟩⟩)
  · have g0 := of_decide_eq_false h0
    try simp only [List.length_map] at g0
    refine ⟨?_, ?_⟩
    · exact pcallv_ptr rfl rfl rfl rfl rfl rfl (e49 _ _ _ hB)
    ((have q := q2 (by omega)); exact ⟨[], [0], rfl, trivial, ⟨vw_int (by unfold qR; rw [q]; rfl), trivial⟩, ⟨bw_rd (by unfold qL; rw [q]; rfl) (by unfold qE; rw [q]; rfl), trivial⟩⟩)
end Go.Proofs.Ytmkpdbofhpffaaa
