/- How a state is encoded. -/
import Derived.Test.YtmkpdbofhpffaaaRd
namespace Go.Proofs.Ytmkpdbofhpffaaa
open Go.Proofs.Ytmkpdbofhpffaaa.Pv Go.RowKit
set_option maxRecDepth 100000
set_option maxHeartbeats 4000000
set_option linter.unusedSimpArgs false
set_option linter.unusedVariables false
set_option maxHeartbeats 2000000
theorem beA_succ (s x : Int) (i : Nat) : beA s x (i + 1) = beA s x i ++ [by8 x (s - 8 * (i : Int))] := by unfold beA; rw [List.range_succ, List.map_append]; rfl
theorem beA_len (s x : Int) (i : Nat) : (beA s x i).length = i := by unfold beA; simp
theorem be8_len (x : Int) : (be8 x).length = 8 := beA_len _ _ _
theorem be2_len (x : Int) : (be2 x).length = 2 := beA_len _ _ _
theorem bes_len : ∀ (l : List Int), (bes l).length = 8 * l.length
  | [] => rfl
  | a :: l => by
    have := bes_len l
    unfold bes at this ⊢
    rw [List.flatMap_cons, List.length_append, this, be8_len, List.length_cons]; omega
theorem bes_take {m : List Int} {i : Nat} (h : i < m.length) : bes (m.take (i + 1)) = bes (m.take i) ++ be8 (m.getD i 0) := by
  unfold bes
  rw [List.take_add_one, List.getElem?_eq_getElem h, List.flatMap_append, List.getD_eq_getElem?_getD, List.getElem?_eq_getElem h]
  simp
theorem shC2 {iso : Nat → List PV → Option PV} {shr : Nat → List PV → List Pv.Box → Option (PV × List Pv.Box)} {s : Nat → Bool} (n : Nat) : (Orc.mk iso shr s []).sh n = s n := rfl
theorem hhG2 {iso : Nat → List PV → Option PV} {shr : Nat → List PV → List Pv.Box → Option (PV × List Pv.Box)} {sh : Nat → Bool} : (Orc.mk iso shr (ownS sh) []).hs = fun g => sh (g + Pv.far) := by
  funext g
  have h := ownS_far sh (g + Pv.far) (by unfold Pv.far; omega)
  rw [Pv.hs_at, shC2, h]
theorem orcS {t : Tab} {u : TabS} (ht : TabOk Try.prog X.G t) (hu : TabSOk Try.prog X.G u) : OrcOk Try.prog X.G ⟨(tab X.sh t u).iso, (tab X.sh t u).shr, ownS X.sh, []⟩ := ⟨(tab_orc ht hu).iso, (tab_orc ht hu).shr⟩
theorem u8_inj {a b : List Int} (h : List.map U8 a = List.map U8 b) : a = b := map_inj (fun a b h => by unfold U8 at h; simpa using h) h
theorem shr_eq {x y : Int} {hp : List Pv.Box} (h : 0 ≤ y) : (pbin Try.prog BinOp.shr 3 false (.int .i64 x) (.int .i64 y)).map (fun v => (v, hp)) = some (.int .i64 (x.fdiv (2 ^ (min y.toNat 64))), hp) := by
  unfold pbin pshift
  simp only
  rw [if_neg (by omega)]; rfl
theorem sz5 : szT Try.prog 5 = some 1 := by kernel_rfl
theorem z5 : zeroP Try.prog 5 = some [.int .u8 0] := by kernel_rfl
theorem bytes5 {n : Nat} (h : n ≤ 4294967296) : bytesOk Try.prog 5 n = true := bytes_ok (by kernel_rfl) h
theorem app62 {A A' : List Int} {b : Int} (hA : A' = A ++ [b]) (hl : A.length ≤ 4000000000) :
    pappM true Try.prog [dead, tik 1 (A.length * 1), ⟨1, [U8 b], 0⟩] (List.length [dead, tik 1 (A.length * 1), (⟨1, [U8 b], 0⟩ : Pv.Box)]) 55 55 (.own 1 1 (List.map U8 A)) (.sl 2 1 0 1) = some (.own 3 1 (List.map U8 A'), [dead, dead, ⟨1, [U8 b], 0⟩, tik 1 (A'.length * 1)]) := by
  subst hA
  have h := pappO_own (P := Try.prog) (hp := [dead, tik 1 (A.length * 1), ⟨1, [U8 b], 0⟩]) (T := 55) (X := 55) (i := 1) (es := List.map U8 A) (t := .sl 2 1 0 1) Try.underlying55 Try.underlying55 sz5 z5 rfl (by decide) (telems_one (by rfl) rfl rfl) (by rfl) (by rfl) (by simp) (bytes5 (by simp; omega))
  rw [h]
  simp only [List.length_map, List.map_append, List.length_append, List.map_cons, List.map_nil]
  rfl
theorem hhS {iso : Nat → List PV → Option PV} {shr : Nat → List PV → List Pv.Box → Option (PV × List Pv.Box)} : (Orc.mk iso shr (ownS X.sh) []).hs = X.hs := hhG2
def LB : Nat := 1000000000
theorem LB_eq : LB = 1000000000 := rfl
def hd62_2 (l : List Int) (x : Int) (i : Nat) : PS := ⟨⟨23, [(7, .int .i64 (8 - 8 * ((i : Nat) : Int))), (2, .int .i64 x), (0, gl (l ++ beA 8 x i))]⟩, gh (l ++ beA 8 x i)⟩
def en62_2 (l : List Int) (x : Int) : PS := ⟨⟨23, [(0, gl (l ++ be2 x))]⟩, gh (l ++ be2 x)⟩
theorem lp62_2  (l : List Int) (x : Int) (hl : l.length ≤ LB) : LoopOk Try.prog X.G 1 (lpB Try.f62 2) (hd62_2 l x 0) (.exit 0) (en62_2 l x) := by
  refine (loop_first (S := hd62_2 l x) (m := 2) (c := fun _ => true) (e1 := fun i => (.ret, hd62_2 l x i)) (e2 := (.exit 0, en62_2 l x)) (fun i hi _ e s' nx => ?_) (fun i hi hc => by cases hc) ?_).1 (fun _ _ => rfl)
  · refine round_ok env.mixed iso0 (by kernel_rfl) (r62_2 (fun _ _ => none) no_shr l x i) ?_
    simp only [Holds, Pv.Next]
    have hb := beA_succ 8 x i
    have hbl := beA_len 8 x i
    rw [LB_eq] at hl
    refine ⟨fun h0 => ?_, fun h0 => ?_⟩
    · have g0 := of_decide_eq_true h0
      try simp only [List.length_map] at g0
      refine ⟨?_, ?_⟩
      · exact shr_eq (by omega)
      refine ⟨?_, ?_⟩
      · (exact app62 (by rw [hb, List.append_assoc]; rfl) (by rw [List.length_append, hbl]; omega))
      refine ⟨?_, ?_⟩
      · (exact ⟨trivial, (by trivial), ⟨(by (exact VW.int (by (rw [IntKind.wrap_i64]; omega)))), (by exact VW.int rfl), (by exact VW.own rfl rfl rfl), trivial⟩, ⟨(by exact BW.flat rfl (fun c hc => by simp at hc)), (by exact BW.tik rfl rfl), trivial⟩⟩)
      exact nx
    · have g0 := of_decide_eq_false h0
      try simp only [List.length_map] at g0
      refine ⟨by trivial, ?_⟩
      refine ⟨?_, ?_⟩
      · (omega)
      (omega)
  · refine round_ok env.mixed iso0 (by kernel_rfl) (r62_2 (fun _ _ => none) no_shr l x (2)) ?_
    simp only [Holds, Pv.Next]
    have hb := beA_succ 8 x (2)
    have hbl := beA_len 8 x (2)
    rw [LB_eq] at hl
    refine ⟨fun h0 => ?_, fun h0 => ?_⟩
    · have g0 := of_decide_eq_true h0
      try simp only [List.length_map] at g0
      refine ⟨?_, ?_⟩
      · exact shr_eq (by omega)
      refine ⟨?_, ?_⟩
      · (exact app62 (by rw [hb, List.append_assoc]; rfl) (by rw [List.length_append, hbl]; omega))
      refine ⟨?_, ?_⟩
      · (exact ⟨trivial, (by trivial), ⟨(by (exact VW.int (by (rw [IntKind.wrap_i64]; omega)))), (by exact VW.int rfl), (by exact VW.own rfl rfl rfl), trivial⟩, ⟨(by exact BW.flat rfl (fun c hc => by simp at hc)), (by exact BW.tik rfl rfl), trivial⟩⟩)
      (omega)
    · have g0 := of_decide_eq_false h0
      try simp only [List.length_map] at g0
      refine ⟨by trivial, ?_⟩
      refine ⟨?_, ?_⟩
      · exact ⟨trivial, (by trivial), ⟨(by exact VW.own rfl rfl rfl), trivial⟩, ⟨(by exact BW.flat rfl (fun c hc => by simp at hc)), (by exact BW.tik rfl rfl), trivial⟩⟩
      exact ⟨trivial, rfl⟩
theorem sh62_2 (l : List Int) (x : Int) (hl : l.length ≤ LB) : Sh Try.prog X.G 62 [.own 0 1 (List.map U8 l), .int .i64 2, .int .i64 x] [tik 1 (l.length * 1)] (gl (l ++ be2 x)) (gh (l ++ be2 x)) := by
  refine wfun_ok env iso0 fd62 (t62_2 (fun _ _ => none) no_shr l x) ?_ hhS
  simp only [Holds]
  refine ⟨?_, ?_⟩
  · exact ⟨trivial, (by trivial), ⟨(by exact VW.int rfl), (by exact VW.int rfl), (by exact VW.own rfl rfl (by simp [beA])), trivial⟩, ⟨(by trivial), (by exact BW.tik rfl (by simp [beA])), trivial⟩⟩
  refine ⟨?_, ?_⟩
  · exact lp62_2 l x hl
  exact ⟨[], [0, 1], rfl, trivial, ⟨VW.own rfl rfl rfl, trivial⟩, ⟨BW.flat rfl (fun c hc => by simp at hc), BW.tik rfl rfl, trivial⟩⟩
def hd62_8 (l : List Int) (x : Int) (i : Nat) : PS := ⟨⟨23, [(7, .int .i64 (56 - 8 * ((i : Nat) : Int))), (2, .int .i64 x), (0, gl (l ++ beA 56 x i))]⟩, gh (l ++ beA 56 x i)⟩
def en62_8 (l : List Int) (x : Int) : PS := ⟨⟨23, [(0, gl (l ++ be8 x))]⟩, gh (l ++ be8 x)⟩
theorem lp62_8  (l : List Int) (x : Int) (hl : l.length ≤ LB) : LoopOk Try.prog X.G 1 (lpB Try.f62 2) (hd62_8 l x 0) (.exit 0) (en62_8 l x) := by
  refine (loop_first (S := hd62_8 l x) (m := 8) (c := fun _ => true) (e1 := fun i => (.ret, hd62_8 l x i)) (e2 := (.exit 0, en62_8 l x)) (fun i hi _ e s' nx => ?_) (fun i hi hc => by cases hc) ?_).1 (fun _ _ => rfl)
  · refine round_ok env.mixed iso0 (by kernel_rfl) (r62_8 (fun _ _ => none) no_shr l x i) ?_
    simp only [Holds, Pv.Next]
    have hb := beA_succ 56 x i
    have hbl := beA_len 56 x i
    rw [LB_eq] at hl
    refine ⟨fun h0 => ?_, fun h0 => ?_⟩
    · have g0 := of_decide_eq_true h0
      try simp only [List.length_map] at g0
      refine ⟨?_, ?_⟩
      · exact shr_eq (by omega)
      refine ⟨?_, ?_⟩
      · (exact app62 (by rw [hb, List.append_assoc]; rfl) (by rw [List.length_append, hbl]; omega))
      refine ⟨?_, ?_⟩
      · (exact ⟨trivial, (by trivial), ⟨(by (exact VW.int (by (rw [IntKind.wrap_i64]; omega)))), (by exact VW.int rfl), (by exact VW.own rfl rfl rfl), trivial⟩, ⟨(by exact BW.flat rfl (fun c hc => by simp at hc)), (by exact BW.tik rfl rfl), trivial⟩⟩)
      exact nx
    · have g0 := of_decide_eq_false h0
      try simp only [List.length_map] at g0
      refine ⟨by trivial, ?_⟩
      refine ⟨?_, ?_⟩
      · (omega)
      (omega)
  · refine round_ok env.mixed iso0 (by kernel_rfl) (r62_8 (fun _ _ => none) no_shr l x (8)) ?_
    simp only [Holds, Pv.Next]
    have hb := beA_succ 56 x (8)
    have hbl := beA_len 56 x (8)
    rw [LB_eq] at hl
    refine ⟨fun h0 => ?_, fun h0 => ?_⟩
    · have g0 := of_decide_eq_true h0
      try simp only [List.length_map] at g0
      refine ⟨?_, ?_⟩
      · exact shr_eq (by omega)
      refine ⟨?_, ?_⟩
      · (exact app62 (by rw [hb, List.append_assoc]; rfl) (by rw [List.length_append, hbl]; omega))
      refine ⟨?_, ?_⟩
      · (exact ⟨trivial, (by trivial), ⟨(by (exact VW.int (by (rw [IntKind.wrap_i64]; omega)))), (by exact VW.int rfl), (by exact VW.own rfl rfl rfl), trivial⟩, ⟨(by exact BW.flat rfl (fun c hc => by simp at hc)), (by exact BW.tik rfl rfl), trivial⟩⟩)
      (omega)
    · have g0 := of_decide_eq_false h0
      try simp only [List.length_map] at g0
      refine ⟨by trivial, ?_⟩
      refine ⟨?_, ?_⟩
      · exact ⟨trivial, (by trivial), ⟨(by exact VW.own rfl rfl rfl), trivial⟩, ⟨(by exact BW.flat rfl (fun c hc => by simp at hc)), (by exact BW.tik rfl rfl), trivial⟩⟩
      exact ⟨trivial, rfl⟩
theorem sh62_8 (l : List Int) (x : Int) (hl : l.length ≤ LB) : Sh Try.prog X.G 62 [.own 0 1 (List.map U8 l), .int .i64 8, .int .i64 x] [tik 1 (l.length * 1)] (gl (l ++ be8 x)) (gh (l ++ be8 x)) := by
  refine wfun_ok env iso0 fd62 (t62_8 (fun _ _ => none) no_shr l x) ?_ hhS
  simp only [Holds]
  refine ⟨?_, ?_⟩
  · exact ⟨trivial, (by trivial), ⟨(by exact VW.int rfl), (by exact VW.int rfl), (by exact VW.own rfl rfl (by simp [beA])), trivial⟩, ⟨(by trivial), (by exact BW.tik rfl (by simp [beA])), trivial⟩⟩
  refine ⟨?_, ?_⟩
  · exact lp62_8 l x hl
  exact ⟨[], [0, 1], rfl, trivial, ⟨VW.own rfl rfl rfl, trivial⟩, ⟨BW.flat rfl (fun c hc => by simp at hc), BW.tik rfl rfl, trivial⟩⟩
theorem laS1 : ∃ shr : Nat → List PV → List Pv.Box → Option (PV × List Pv.Box), OrcOk Try.prog X.G ⟨fun _ _ => none, shr, ownS X.sh, []⟩ ∧ (∀ (l : List Int) (x : Int), l.length ≤ LB → shr 62 [.own 0 1 (List.map U8 l), .int .i64 2, .int .i64 x] [tik 1 (l.length * 1)] = some (gl (l ++ be2 x), gh (l ++ be2 x))) ∧ (∀ (l : List Int) (x : Int), l.length ≤ LB → shr 62 [.own 0 1 (List.map U8 l), .int .i64 8, .int .i64 x] [tik 1 (l.length * 1)] = some (gl (l ++ be8 x), gh (l ++ be8 x))) := by
  obtain ⟨h, e, b⟩ := entS_ex (fun q : Bool × List Int × Int => q.2.1.length ≤ LB) (fun q => (([.own 0 1 (List.map U8 q.2.1), .int .i64 (if q.1 then 8 else 2), .int .i64 q.2.2], [tik 1 (q.2.1.length * 1)]), (gl (q.2.1 ++ (if q.1 then be8 q.2.2 else be2 q.2.2)), gh (q.2.1 ++ (if q.1 then be8 q.2.2 else be2 q.2.2))))) (fun a b h => by
    obtain ⟨k, l, x⟩ := a
    obtain ⟨k', l', x'⟩ := b
    simp only [Prod.mk.injEq, List.cons.injEq, PV.own.injEq, PV.int.injEq, true_and, and_true] at h
    obtain ⟨⟨h1, h2, h3⟩, _⟩ := h
    have := u8_inj h1
    subst this; subst h3
    cases k <;> cases k' <;> simp at h2 ⊢)
  have hT : TabSOk Try.prog X.G [(62, h)] := tkS (fun al hp r e' => by
    obtain ⟨⟨k, l, x⟩, ha, hb, rfl⟩ := b al hp r e'
    simp only [Prod.mk.injEq] at hb
    obtain ⟨rfl, rfl⟩ := hb
    cases k
    · exact sh62_2 l x ha
    · exact sh62_8 l x ha) tn'
  exact ⟨(tab X.sh [] [(62, h)]).shr, ⟨(fun _ _ _ h => by cases h), (orcS tn hT).shr⟩, fun l x hl => e (false, l, x) hl, fun l x hl => e (true, l, x) hl⟩
theorem sh46 (l : List Int) (x : Int) (hl : l.length ≤ LB) : Sh Try.prog X.G 46 [.own 0 1 (List.map U8 l), .int .i64 x] [tik 1 (l.length * 1)] (gl (l ++ be2 x)) (gh (l ++ be2 x)) := by
  obtain ⟨shr, hC, e2, e8⟩ := laS1
  refine wfun_ok env hC fd46 (t46 (fun _ _ => none) shr l x) ?_ hhS
  simp only [Holds]
  refine ⟨pcallv_own rfl rfl rfl (e2 l x hl), ?_⟩
  exact ⟨[], [0, 1], rfl, trivial, ⟨VW.own rfl rfl rfl, trivial⟩, ⟨BW.flat rfl (fun c hc => by simp at hc), BW.tik rfl rfl, trivial⟩⟩
def hd47 (l : List Int) (m : List Int) (i : Nat) : PS := ⟨⟨18, [(9, .int .i64 ((i : Nat) : Int)), (0, gl (l ++ bes (m.take i))), (7, ints m), (8, .int .i64 (List.length m : Int))]⟩, gh (l ++ bes (m.take i))⟩
def en47 (l : List Int) (m : List Int) : PS := ⟨⟨18, [(0, gl (l ++ bes m))]⟩, gh (l ++ bes m)⟩
theorem lp47 (shr : Nat → List PV → List Pv.Box → Option (PV × List Pv.Box)) (hC : OrcOk Try.prog X.G ⟨fun _ _ => none, shr, ownS X.sh, []⟩) (e8 : (∀ (l : List Int) (x : Int), l.length ≤ LB → shr 62 [.own 0 1 (List.map U8 l), .int .i64 8, .int .i64 x] [tik 1 (l.length * 1)] = some (gl (l ++ be8 x), gh (l ++ be8 x)))) (l : List Int) (m : List Int) (hl : l.length + 80000 ≤ LB) (hm : m.length ≤ 10000) : LoopOk Try.prog X.G 1 (lpB Try.f47 2) (hd47 l m 0) (.exit 0) (en47 l m) := by
  refine (loop_first (S := hd47 l m) (m := m.length) (c := fun _ => true) (e1 := fun i => (.ret, hd47 l m i)) (e2 := (.exit 0, en47 l m)) (fun i hi _ e s' nx => ?_) (fun i hi hc => by cases hc) ?_).1 (fun _ _ => rfl)
  · refine round_ok env.mixed hC (by kernel_rfl) (r47 (fun _ _ => none) shr l m i) ?_
    simp only [Holds, Pv.Next]
    have hbt : i < m.length → bes (m.take (i + 1)) = bes (m.take i) ++ be8 (m.getD i 0) := bes_take
    have hln : (l ++ bes (m.take i)).length ≤ LB := by rw [List.length_append, bes_len, List.length_take]; omega
    have hz := hl
    refine ⟨fun h0 => ?_, fun h0 => ?_⟩
    · have g0 := of_decide_eq_true h0
      try simp only [List.length_map] at g0
      refine ⟨?_, ?_⟩
      · exact px23 (by omega)
      refine ⟨?_, ?_⟩
      · exact pcallv_own (i := 1) rfl rfl rfl (e8 _ _ hln)
      refine ⟨?_, ?_⟩
      · exact ⟨trivial, (by trivial), ⟨(by exact VW.int (wsucc (by omega))), (by exact VW.own rfl rfl (by (rw [hbt hi, ← List.append_assoc]))), (by exact VW.lst rfl rfl), (by exact VW.int rfl), trivial⟩, ⟨(by exact BW.flat rfl (fun c hc => by simp at hc)), (by exact BW.tik rfl (by (rw [hbt hi, ← List.append_assoc]))), trivial⟩⟩
      exact nx
    · have g0 := of_decide_eq_false h0
      try simp only [List.length_map] at g0
      refine ⟨by trivial, ?_⟩
      refine ⟨?_, ?_⟩
      · (omega)
      (omega)
  · refine round_ok env.mixed hC (by kernel_rfl) (r47 (fun _ _ => none) shr l m (m.length)) ?_
    simp only [Holds, Pv.Next]
    have hbt : (m.length) < m.length → bes (m.take ((m.length) + 1)) = bes (m.take (m.length)) ++ be8 (m.getD (m.length) 0) := bes_take
    have hln : (l ++ bes (m.take (m.length))).length ≤ LB := by rw [List.length_append, bes_len, List.length_take]; omega
    have hz := hl
    refine ⟨fun h0 => ?_, fun h0 => ?_⟩
    · have g0 := of_decide_eq_true h0
      try simp only [List.length_map] at g0
      refine ⟨?_, ?_⟩
      · exact px23 (by omega)
      refine ⟨?_, ?_⟩
      · exact pcallv_own (i := 1) rfl rfl rfl (e8 _ _ hln)
      refine ⟨?_, ?_⟩
      · (omega)
      (omega)
    · have g0 := of_decide_eq_false h0
      try simp only [List.length_map] at g0
      refine ⟨by trivial, ?_⟩
      refine ⟨?_, ?_⟩
      · exact ⟨trivial, (by trivial), ⟨(by exact VW.own rfl rfl (by (rw [List.take_length]))), trivial⟩, ⟨(by exact BW.flat rfl (fun c hc => by simp at hc)), (by exact BW.tik rfl (by (rw [List.take_length]))), trivial⟩⟩
      exact ⟨trivial, rfl⟩
theorem sh47 (l m : List Int) (hl : l.length + 80000 ≤ LB) (hm : m.length ≤ 10000) : Sh Try.prog X.G 47 [.own 0 1 (List.map U8 l), ints m] [tik 1 (l.length * 1)] (gl (l ++ bes m)) (gh (l ++ bes m)) := by
  obtain ⟨shr, hC, e2, e8⟩ := laS1
  refine wfun_ok env hC fd47 (t47 (fun _ _ => none) shr l m) ?_ hhS
  simp only [Holds]
  refine ⟨?_, ?_⟩
  · exact ⟨trivial, (by trivial), ⟨(by exact VW.int (by simp)), (by exact VW.own rfl rfl (by simp [bes])), (by exact VW.lst rfl rfl), (by exact VW.int (by simp)), trivial⟩, ⟨(by trivial), (by exact BW.tik rfl (by simp [bes])), trivial⟩⟩
  refine ⟨?_, ?_⟩
  · exact lp47 shr hC e8 l m hl hm
  exact ⟨[], [0, 1], rfl, trivial, ⟨VW.own rfl rfl rfl, trivial⟩, ⟨BW.flat rfl (fun c hc => by simp at hc), BW.tik rfl rfl, trivial⟩⟩
theorem laS2 : ∃ (iso : Nat → List PV → Option PV) (shr : Nat → List PV → List Pv.Box → Option (PV × List Pv.Box)), OrcOk Try.prog X.G ⟨iso, shr, ownS X.sh, []⟩ ∧ (∀ (l : List VD) (s : St), iso 17 [vars l, s.pv] = some (.bool (fitV l s))) ∧ (∀ (l : List Int) (x : Int), l.length ≤ LB → shr 46 [.own 0 1 (List.map U8 l), .int .i64 x] [tik 1 (l.length * 1)] = some (gl (l ++ be2 x), gh (l ++ be2 x))) ∧ (∀ (l m : List Int), l.length + 80000 ≤ LB ∧ m.length ≤ 10000 → shr 47 [.own 0 1 (List.map U8 l), ints m] [tik 1 (l.length * 1)] = some (gl (l ++ bes m), gh (l ++ bes m))) := by
  obtain ⟨h17, e17, o17⟩ := ent_ex (fun q : List VD × St => True) (fun q => ([vars q.1, q.2.pv], .bool (fitV q.1 q.2))) (fun a b h => by simp only [List.cons.injEq, vars_inj, St_inj, and_true] at h; simp [h])
  obtain ⟨h46, e46, o46⟩ := entS_ex (fun q : List Int × Int => q.1.length ≤ LB) (fun q => (([.own 0 1 (List.map U8 q.1), .int .i64 q.2], [tik 1 (q.1.length * 1)]), (gl (q.1 ++ be2 q.2), gh (q.1 ++ be2 q.2)))) (fun a b h => by
    obtain ⟨l, x⟩ := a
    obtain ⟨l', x'⟩ := b
    simp only [Prod.mk.injEq, List.cons.injEq, PV.own.injEq, PV.int.injEq, true_and, and_true] at h
    have := u8_inj h.1.1
    subst this; rw [h.1.2])
  obtain ⟨h47, e47, o47⟩ := entS_ex (fun q : List Int × List Int => q.1.length + 80000 ≤ LB ∧ q.2.length ≤ 10000) (fun q => (([.own 0 1 (List.map U8 q.1), ints q.2], [tik 1 (q.1.length * 1)]), (gl (q.1 ++ bes q.2), gh (q.1 ++ bes q.2)))) (fun a b h => by
    obtain ⟨l, x⟩ := a
    obtain ⟨l', x'⟩ := b
    simp only [Prod.mk.injEq, List.cons.injEq, PV.own.injEq, ints_inj, true_and, and_true] at h
    have := u8_inj h.1.1
    subst this; rw [h.1.2])
  have hT : TabOk Try.prog X.G [(17, h17)] := tk (fun l r e => by obtain ⟨a, ha, rfl, rfl⟩ := o17 l r e; exact ok17 a.1 a.2) tn
  have hS : TabSOk Try.prog X.G [(46, h46), (47, h47)] := tkS (fun al hp r e' => by
    obtain ⟨⟨l, x⟩, ha, hb, rfl⟩ := o46 al hp r e'
    simp only [Prod.mk.injEq] at hb
    obtain ⟨rfl, rfl⟩ := hb
    exact sh46 l x ha) (tkS (fun al hp r e' => by
    obtain ⟨⟨l, x⟩, ha, hb, rfl⟩ := o47 al hp r e'
    simp only [Prod.mk.injEq] at hb
    obtain ⟨rfl, rfl⟩ := hb
    exact sh47 l x ha.1 ha.2) tn')
  exact ⟨_, _, orcS hT hS, fun l s => e17 (l, s) trivial, fun l x hl => e46 (l, x) hl, fun l m hl => e47 (l, m) hl⟩
theorem encN_succ (l : List VD) (s : St) (i : Nat) : encN l s (i + 1) = encN l s i ++ encV (l.getD i default) (s.c.getD i default) := by unfold encN; rw [List.range_succ, List.flatMap_append]; simp
theorem encV_len (v : VD) (c : List Int) : (encV v c).length ≤ 2 + 8 * c.length := by
  unfold encV
  split
  · rw [List.length_append, be2_len, bes_len]; omega
  · rw [List.nil_append, bes_len]; omega
theorem sml_c {s : St} (h : sml s ≠ 0) : s.i.length ≤ 60 ∧ s.o.length ≤ 60 ∧ ∀ i, (s.c.getD i default).length ≤ 60 := by
  unfold sml at h
  split at h
  · rename_i q; exact ⟨q.2.1, q.2.2.1, fun i => getD_all (p := fun x : List Int => x.length ≤ 60) q.2.2.2 (Nat.zero_le _)⟩
  · exact absurd rfl h
theorem encN_len {l : List VD} {s : St} (h : ∀ i, (s.c.getD i default).length ≤ 4096) : ∀ i, (encN l s i).length ≤ i * 32770
  | 0 => by simp [encN]
  | i + 1 => by
    rw [encN_succ, List.length_append]
    have := encN_len (l := l) h i
    have h1 := encV_len (l.getD i default) (s.c.getD i default)
    have h2 := h i
    omega
theorem encN_st {l : List VD} {s : St} {i : Nat} (h : VD.k (l.getD i default) = 3) : encN l s (i + 1) = encN l s i ++ be2 (List.length (List.map I (s.c.getD i default)) : Int) ++ bes (s.c.getD i default) := by
  rw [encN_succ]; unfold encV; rw [if_pos h, List.length_map, List.append_assoc]
theorem encN_no {l : List VD} {s : St} {i : Nat} (h : ¬ VD.k (l.getD i default) = 3) : encN l s (i + 1) = encN l s i ++ bes (s.c.getD i default) := by
  rw [encN_succ]; unfold encV; rw [if_neg h, List.nil_append]
def hd30 (l : List VD) (s : St) (i : Nat) : PS := ⟨⟨55, [(15, .int .i64 ((i : Nat) : Int)), (3, .cptr (St.cs s)), (6, .own 0 1 (List.map U8 (encN l s i))), (13, vars l), (14, .int .i64 (List.length l : Int))]⟩, [tik 1 ((encN l s i).length * 1)]⟩
def en30 (l : List VD) (s : St) : PS := ⟨⟨55, [(3, .cptr (St.cs s)), (6, .own 0 1 (List.map U8 (encN l s l.length)))]⟩, [tik 1 ((encN l s l.length).length * 1)]⟩
theorem lp30 (iso : Nat → List PV → Option PV) (shr : Nat → List PV → List Pv.Box → Option (PV × List Pv.Box)) (hC : OrcOk Try.prog X.G ⟨iso, shr, ownS X.sh, []⟩) (e46 : (∀ (l : List Int) (x : Int), l.length ≤ LB → shr 46 [.own 0 1 (List.map U8 l), .int .i64 x] [tik 1 (l.length * 1)] = some (gl (l ++ be2 x), gh (l ++ be2 x)))) (e47 : (∀ (l m : List Int), l.length + 80000 ≤ LB ∧ m.length ≤ 10000 → shr 47 [.own 0 1 (List.map U8 l), ints m] [tik 1 (l.length * 1)] = some (gl (l ++ bes m), gh (l ++ bes m)))) (l : List VD) (s : St) (hl : l.length ≤ 32) (hsl : s.c.length = l.length) (h60 : ∀ i, (s.c.getD i default).length ≤ 4096) : LoopOk Try.prog X.G 0 (lpB Try.f30 5) (hd30 l s 0) (.exit 0) (en30 l s) := by
  refine (loop_first (S := hd30 l s) (m := l.length) (c := fun _ => true) (e1 := fun i => (.ret, hd30 l s i)) (e2 := (.exit 0, en30 l s)) (fun i hi _ e s' nx => ?_) (fun i hi hc => by cases hc) ?_).1 (fun _ _ => rfl)
  · refine round_ok env.mixed hC (by kernel_rfl) (r30 iso shr l s i) ?_
    simp only [Holds, Pv.Next]
    have hN := encN_len (l := l) h60 i
    have hc6 := h60 i
    refine ⟨fun h0 => ?_, fun h0 => ?_⟩
    · have g0 := of_decide_eq_true h0
      try simp only [List.length_map] at g0
      refine ⟨?_, ?_⟩
      · exact px22 (by omega)
      refine ⟨fun h1 => ?_, fun h1 => ?_⟩
      · have g1 := beq_iff_eq.1 h1
        try simp only [List.length_map] at g1
        refine ⟨?_, ?_⟩
        · exact px25 (by omega)
        refine ⟨?_, ?_⟩
        · (exact pcallv_own (i := 0) rfl rfl rfl (e46 _ _ (by rw [LB_eq]; (try simp only [List.length_append, be2_len, bes_len]); omega)))
        refine ⟨?_, ?_⟩
        · exact px25 (by omega)
        refine ⟨?_, ?_⟩
        · (exact pcallv_own (i := 2) rfl rfl rfl (e47 _ _ ⟨(by rw [LB_eq]; (try simp only [List.length_append, be2_len, bes_len]); omega), by omega⟩))
        refine ⟨?_, ?_⟩
        · exact ⟨trivial, (by trivial), ⟨(by exact VW.int (wsucc (by omega))), (by exact VW.cptr rfl), (by exact VW.own rfl rfl (by (rw [encN_st (by assumption)]))), (by exact VW.lst rfl rfl), (by exact VW.int rfl), trivial⟩, ⟨(by exact BW.tik rfl (by (rw [encN_st (by assumption)]))), trivial⟩⟩
        exact nx
      · have g1 := beq_eq_false_iff_ne.1 h1
        try simp only [List.length_map] at g1
        refine ⟨?_, ?_⟩
        · exact px25 (by omega)
        refine ⟨?_, ?_⟩
        · (exact pcallv_own (i := 0) rfl rfl rfl (e47 _ _ ⟨(by rw [LB_eq]; (try simp only [List.length_append, be2_len, bes_len]); omega), by omega⟩))
        refine ⟨?_, ?_⟩
        · exact ⟨trivial, (by trivial), ⟨(by exact VW.int (wsucc (by omega))), (by exact VW.cptr rfl), (by exact VW.own rfl rfl (by (rw [encN_no (by assumption)]))), (by exact VW.lst rfl rfl), (by exact VW.int rfl), trivial⟩, ⟨(by exact BW.tik rfl (by (rw [encN_no (by assumption)]))), trivial⟩⟩
        exact nx
    · have g0 := of_decide_eq_false h0
      try simp only [List.length_map] at g0
      refine ⟨by trivial, ?_⟩
      refine ⟨?_, ?_⟩
      · (omega)
      (omega)
  · refine round_ok env.mixed hC (by kernel_rfl) (r30 iso shr l s (l.length)) ?_
    simp only [Holds, Pv.Next]
    have hN := encN_len (l := l) h60 (l.length)
    have hc6 := h60 (l.length)
    refine ⟨fun h0 => ?_, fun h0 => ?_⟩
    · have g0 := of_decide_eq_true h0
      try simp only [List.length_map] at g0
      refine ⟨?_, ?_⟩
      · exact px22 (by omega)
      refine ⟨fun h1 => ?_, fun h1 => ?_⟩
      · have g1 := beq_iff_eq.1 h1
        try simp only [List.length_map] at g1
        refine ⟨?_, ?_⟩
        · exact px25 (by omega)
        refine ⟨?_, ?_⟩
        · (exact pcallv_own (i := 0) rfl rfl rfl (e46 _ _ (by rw [LB_eq]; (try simp only [List.length_append, be2_len, bes_len]); omega)))
        refine ⟨?_, ?_⟩
        · exact px25 (by omega)
        refine ⟨?_, ?_⟩
        · (exact pcallv_own (i := 2) rfl rfl rfl (e47 _ _ ⟨(by rw [LB_eq]; (try simp only [List.length_append, be2_len, bes_len]); omega), by omega⟩))
        refine ⟨?_, ?_⟩
        · exact ⟨trivial, (by trivial), ⟨(by exact VW.int (wsucc (by omega))), (by exact VW.cptr rfl), (by exact VW.own rfl rfl (by (rw [encN_st (by assumption)]))), (by exact VW.lst rfl rfl), (by exact VW.int rfl), trivial⟩, ⟨(by exact BW.tik rfl (by (rw [encN_st (by assumption)]))), trivial⟩⟩
        (omega)
      · have g1 := beq_eq_false_iff_ne.1 h1
        try simp only [List.length_map] at g1
        refine ⟨?_, ?_⟩
        · exact px25 (by omega)
        refine ⟨?_, ?_⟩
        · (exact pcallv_own (i := 0) rfl rfl rfl (e47 _ _ ⟨(by rw [LB_eq]; (try simp only [List.length_append, be2_len, bes_len]); omega), by omega⟩))
        refine ⟨?_, ?_⟩
        · exact ⟨trivial, (by trivial), ⟨(by exact VW.int (wsucc (by omega))), (by exact VW.cptr rfl), (by exact VW.own rfl rfl (by (rw [encN_no (by assumption)]))), (by exact VW.lst rfl rfl), (by exact VW.int rfl), trivial⟩, ⟨(by exact BW.tik rfl (by (rw [encN_no (by assumption)]))), trivial⟩⟩
        (omega)
    · have g0 := of_decide_eq_false h0
      try simp only [List.length_map] at g0
      refine ⟨by trivial, ?_⟩
      refine ⟨?_, ?_⟩
      · exact ⟨trivial, (by trivial), ⟨(by exact VW.cptr rfl), (by exact VW.own rfl rfl rfl), trivial⟩, ⟨(by exact BW.tik rfl rfl), trivial⟩⟩
      exact ⟨trivial, rfl⟩
theorem ok30g (l : List VD) (s : St) (hs : s.i.length ≤ 4096 ∧ s.o.length ≤ 4096 ∧ ∀ i, (s.c.getD i default).length ≤ 4096) : Ok Try.prog X.G 30 [vars l, s.pv] (.tup [.lst 1 (List.map U8 (encR l s)), .int .i64 (encE l s)]) := by
  obtain ⟨iso, shr, hC, e17, e46, e47⟩ := laS2
  obtain ⟨hi6, ho6, h60⟩ := hs
  refine wok env hC fd30 (t30 iso shr l s) ?_ hhS
  simp only [Holds]
  have hN := encN_len (l := l) h60 l.length
  have hl32 : fitV l s = true → l.length ≤ 32 ∧ s.c.length = l.length := fun h => ⟨(valV_iff.1 (fitV_iff.1 h).1).1, (fitV_iff.1 h).2.1⟩
  have hN2 : fitV l s = true → (encN l s l.length).length ≤ 32 * 32770 := fun h => by have := hl32 h; omega
  have rT : fitV l s = true → encR l s = enc l s ∧ encE l s = 0 := fun h => by unfold encR encE; rw [h]; exact ⟨rfl, rfl⟩
  have rF : fitV l s = false → encR l s = [] ∧ encE l s = 3 := fun h => by unfold encR encE; rw [h]; exact ⟨rfl, rfl⟩
  refine ⟨fun h0 => ?_, fun h0 => ?_⟩
  · have g0 := h0
    refine ⟨?_, ?_⟩
    · (exact pcallv_iso rfl rfl (by rw [← h0]; exact e17 _ _))
    refine ⟨?_, ?_⟩
    · exact ⟨trivial, (by trivial), ⟨(by exact VW.int (by simp)), (by exact VW.cptr rfl), (by exact VW.no rfl), (by exact VW.lst rfl rfl), (by exact VW.int (by simp)), trivial⟩, ⟨(by exact BW.flat rfl (fun c hc => by simp at hc)), trivial⟩⟩
    refine ⟨?_, ?_⟩
    · exact lp30 iso shr hC e46 e47 l s (hl32 (by assumption)).1 (hl32 (by assumption)).2 h60
    refine ⟨?_, ?_⟩
    · (exact pcallv_own (i := 0) rfl rfl rfl (e46 _ _ (by have := hN2 (by assumption); rw [LB_eq]; (try simp only [List.length_append, be2_len, bes_len]); omega)))
    refine ⟨?_, ?_⟩
    · (exact pcallv_own (i := 1) rfl rfl rfl (e47 _ _ ⟨(by have := hN2 (by assumption); rw [LB_eq]; (try simp only [List.length_append, be2_len, bes_len]); omega), by omega⟩))
    refine ⟨?_, ?_⟩
    · (exact pcallv_own (i := 2) rfl rfl rfl (e46 _ _ (by have := hN2 (by assumption); rw [LB_eq]; (try simp only [List.length_append, be2_len, bes_len]); omega)))
    refine ⟨?_, ?_⟩
    · (exact pcallv_own (i := 3) rfl rfl rfl (e47 _ _ ⟨(by have := hN2 (by assumption); rw [LB_eq]; (try simp only [List.length_append, be2_len, bes_len]); omega), by omega⟩))
    ((rw [(rT (by assumption)).1, (rT (by assumption)).2]; exact ⟨_, _, rfl, Sub.refl _⟩))
  · have g0 := h0
    refine ⟨?_, ?_⟩
    · (exact pcallv_iso rfl rfl (by rw [← h0]; exact e17 _ _))
    ((rw [(rF (by assumption)).1, (rF (by assumption)).2]; exact ⟨_, _, rfl, Sub.tup (.cons (Sub.nils 1) (.cons (Sub.refl _) .nil))⟩))
theorem ok30 (l : List VD) (s : St) (hs : sml s ≠ 0) : Ok Try.prog X.G 30 [vars l, s.pv] (.tup [.lst 1 (List.map U8 (encR l s)), .int .i64 (encE l s)]) := by
  obtain ⟨h1, h2, h3⟩ := sml_c hs
  exact ok30g l s ⟨by omega, by omega, fun i => Nat.le_trans (h3 i) (by decide)⟩
end Go.Proofs.Ytmkpdbofhpffaaa
