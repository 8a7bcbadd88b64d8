/- The reference's reader, by what it answers. -/
import Derived.Test.YtmkpdbofhpffaaaSd
namespace Go.Proofs.Ytmkpdbofhpffaaa
open Go.Proofs.Ytmkpdbofhpffaaa.Pv Go.RowKit
set_option maxRecDepth 100000
set_option maxHeartbeats 4000000
set_option linter.unusedSimpArgs false
set_option linter.unusedVariables false
set_option maxHeartbeats 2000000
theorem sz23' : szT Try.prog 23 = some 1 := by kernel_rfl
theorem z23 : zeroP Try.prog 23 = some [.nils] := by kernel_rfl
theorem bytes23 {n : Nat} (h : n ≤ 4294967296) : bytesOk Try.prog 23 n = true := bytes_ok (by kernel_rfl) h
theorem appX {α : Type} {f : α → PV} {T E : TypeId} {z : PV} {hp : List Pv.Box} {i j : Nat} {A A' : List α} {b : α} (hA : A' = A ++ [b]) (hT : Try.prog.underlying T = some (.slice E)) (hs : szT Try.prog E = some 1) (hz : zeroP Try.prog E = some [z])
    (hby : bytesOk Try.prog E (A.length + 1) = true) (hf : Pv.elemOf 1 [ren (fun _ => none) deep (f b)] = f b) (ha : atomE (f b) = true) (hi : hp[i]? = some (tik 1 (A.length * 1))) (hj : hp[j]? = some ⟨1, [f b], 0⟩) :
    pappM true Try.prog hp hp.length T T (.own i 1 (List.map f A)) (.sl j 1 0 1) = some (.own hp.length 1 (List.map f A'), hp.set i ⟨1, [], 2⟩ ++ [tik 1 (A'.length * 1)]) := by
  subst hA
  have h := pappO_own (P := Try.prog) (hp := hp) (T := T) (X := T) (i := i) (es := List.map f A) (t := .sl j 1 0 1) hT hT hs hz rfl (by decide) (telems_one (ys := [ren (fun _ => none) deep (f b)]) hj rfl rfl) (by rw [hf]; simp [ha]) hi (by simp) (by rw [List.length_map]; exact hby)
  rw [h, hf]
  simp only [List.length_map, List.map_append, List.length_append, List.map_cons, List.map_nil, List.length_cons, List.length_nil]
theorem bu_be (x : List Int) : IntKind.wrap .i64 (bu x) = be x := by unfold bu be; simp only [IntKind.wrap_i64, IntKind.wrap_u64]; omega
theorem bu_succ {l : List Int} {i : Nat} (hb : B8 l) (h : i < l.length) : IntKind.wrap .u64 (((BitVec.ofInt 64 (IntKind.wrap .u64 (bu (l.take i) * 256)) ||| BitVec.ofInt 64 (IntKind.wrap .u64 (l.getD i 0))).toNat : Nat) : Int) = bu (l.take (i + 1)) := by
  have hg : l.getD i 0 = l[i] := by rw [List.getD_eq_getElem?_getD, List.getElem?_eq_getElem h]; rfl
  unfold bu
  rw [oru64 _ _ (by rw [hg]; exact hb _ (List.getElem_mem h)), List.take_add_one, List.getElem?_eq_getElem h, hg]
  simp only [Option.toList_some]
  rw [beN_app]
theorem shlu_eq {x : Int} {hp : List Pv.Box} : (pbin Try.prog BinOp.shl 96 false (.int .u64 x) (.int .u64 8)).map (fun v => (v, hp)) = some (.int .u64 (IntKind.wrap .u64 (x * 256)), hp) := rfl
theorem vw_intn {m : Nat → Option Nat} {hp : List Pv.Box} {l : List Int} (h : l = []) : VW m hp .nils (ints l) := by subst h; exact VW.nl 1 rfl
theorem t_ok {l : List Int} {m : Nat} (h : 8 * m ≤ l.length) : tR l m = nums l m ∧ tL l m = l.drop (8 * m) ∧ tE l m = 0 := by unfold tR tL tE; rw [if_pos h, if_pos h, if_pos h]; exact ⟨rfl, rfl, rfl⟩
theorem t_no {l : List Int} {m : Nat} (h : ¬ 8 * m ≤ l.length) : tR l m = [] ∧ tL l m = [] ∧ tE l m = 4 := by unfold tR tL tE; rw [if_neg h, if_neg h, if_neg h]; exact ⟨rfl, rfl, rfl⟩
theorem t_all {l : List Int} {m : Nat} (h : ∀ j, j < m → decide (8 * (j + 1) ≤ l.length) = true) : 8 * m ≤ l.length := by
  rcases Nat.eq_zero_or_pos m with h0 | h0
  · omega
  · have := of_decide_eq_true (h (m - 1) (by omega)); omega
theorem t_stop {l : List Int} {m j : Nat} (hj : j < m) (h : decide (8 * (j + 1) ≤ l.length) = false) : ¬ 8 * m ≤ l.length := by
  have := of_decide_eq_false h; omega
theorem B8.tL {l : List Int} (h : B8 l) (m : Nat) : B8 (tL l m) := by unfold Ytmkpdbofhpffaaa.tL; split; exact h.drop _; exact fun x hx => by simp at hx
theorem B8.kL {l : List Int} (h : B8 l) (m : Int) : B8 (kL l m) := by
  unfold Ytmkpdbofhpffaaa.kL; split; exact fun x hx => by simp at hx
  split; exact fun x hx => by simp at hx
  exact (h.drop 2).tL _
theorem tL_len (l : List Int) (m : Nat) : (tL l m).length ≤ l.length := by unfold tL; split <;> simp
theorem kL_len (l : List Int) (m : Int) : (kL l m).length ≤ l.length := by
  unfold kL; split; simp
  split; simp
  have := tL_len (l.drop 2) (kN l).toNat
  rw [List.length_drop] at this; omega
theorem B8.dL {l : List VD} {b : List Int} (h : B8 b) : ∀ i, B8 (dL l b i)
  | 0 => h
  | i + 1 => by
    unfold Ytmkpdbofhpffaaa.dL Ytmkpdbofhpffaaa.sL
    split
    · exact (B8.dL h i).kL _
    · exact (B8.dL h i).tL _
theorem dL_len (l : List VD) (b : List Int) : ∀ i, (dL l b i).length ≤ b.length
  | 0 => Nat.le_refl _
  | i + 1 => by
    have := dL_len l b i
    unfold dL sL
    split
    · exact Nat.le_trans (kL_len _ _) this
    · exact Nat.le_trans (tL_len _ _) this
theorem dC_succ (l : List VD) (b : List Int) (i : Nat) : dC l b (i + 1) = dC l b i ++ [dR l b i] := by unfold dC; rw [List.range_succ, List.map_append]; rfl
theorem dC_len (l : List VD) (b : List Int) (i : Nat) : (dC l b i).length = i := by unfold dC; simp

def hd53i (l : List Int) (A : List Int) (n : Int) (i : Nat) (k : Nat) : PS := ⟨⟨40, [(10, .int .i64 ((k : Nat) : Int)), (0, bts (l)), (9, .int .u64 (bu ((l).take k))), (1, .int .i64 n), (8, .int .i64 ((i : Nat) : Int)), (7, .own 0 1 (List.map I (A)))]⟩, [tik 1 ((A).length * 1)]⟩
def en53i (l : List Int) (A : List Int) (n : Int) (i : Nat) : PS := ⟨⟨40, [(0, bts (l)), (9, .int .u64 (bu ((l).take 8))), (1, .int .i64 n), (8, .int .i64 ((i : Nat) : Int)), (7, .own 0 1 (List.map I (A)))]⟩, [tik 1 ((A).length * 1)]⟩
theorem lp53i (iso : Nat → List PV → Option PV) (shr : Nat → List PV → List Pv.Box → Option (PV × List Pv.Box)) (hC : OrcOk Try.prog X.G ⟨iso, shr, ownS X.sh, []⟩) (l : List Int) (A : List Int) (n : Int) (i : Nat) (hb : B8 l) (hl : 8 ≤ l.length) : LoopOk Try.prog X.G 0 (lpB Try.f53 9) (hd53i l A n i 0) (.exit 2) (en53i l A n i) := by
  refine (loop_first (S := hd53i l A n i) (m := 8) (c := fun _ => true) (e1 := fun i => (.ret, hd53i l A n i i)) (e2 := (.exit 2, en53i l A n i)) (fun k hi _ ep sp nx => ?_) (fun i hi hc => by cases hc) ?_).1 (fun _ _ => rfl)
  · refine round_ok env.mixed hC (by kernel_rfl) (r53i iso shr l A n i k) ?_
    simp only [Holds, Pv.Next]
    have hs := bu_succ hb (show k < l.length by omega)
    refine ⟨fun h0 => ?_, fun h0 => ?_⟩
    · have g0 := of_decide_eq_true h0
      try simp only [List.length_map] at g0
      refine ⟨?_, ?_⟩
      · exact shlu_eq
      refine ⟨?_, ?_⟩
      · exact px55 (by omega)
      refine ⟨?_, ?_⟩
      · exact ⟨trivial, (by trivial), ⟨(by exact VW.int (wsucc (by omega))), (by exact VW.lst rfl rfl), (by exact VW.int hs), (by exact VW.int rfl), (by exact VW.int rfl), (by exact VW.own rfl rfl rfl), trivial⟩, ⟨(by exact BW.tik rfl rfl), trivial⟩⟩
      exact nx
    · have g0 := of_decide_eq_false h0
      try simp only [List.length_map] at g0
      refine ⟨by trivial, ?_⟩
      refine ⟨?_, ?_⟩
      · (omega)
      (omega)
  · refine round_ok env.mixed hC (by kernel_rfl) (r53i iso shr l A n i 8) ?_
    simp only [Holds, Pv.Next]
    refine ⟨fun h0 => ?_, fun h0 => ?_⟩
    · have g0 := of_decide_eq_true h0
      try simp only [List.length_map] at g0
      refine ⟨?_, ?_⟩
      · exact shlu_eq
      refine ⟨?_, ?_⟩
      · exact px55 (by omega)
      refine ⟨?_, ?_⟩
      · (omega)
      (omega)
    · have g0 := of_decide_eq_false h0
      try simp only [List.length_map] at g0
      refine ⟨by trivial, ?_⟩
      refine ⟨?_, ?_⟩
      · exact ⟨trivial, (by trivial), ⟨(by exact VW.lst rfl rfl), (by exact VW.int rfl), (by exact VW.int rfl), (by exact VW.int rfl), (by exact VW.own rfl rfl rfl), trivial⟩, ⟨(by exact BW.tik rfl rfl), trivial⟩⟩
      exact ⟨trivial, rfl⟩
def hd53 (l : List Int) (n : Int) (i : Nat) : PS := ⟨⟨40, [(8, .int .i64 ((i : Nat) : Int)), (0, bts (l.drop (8 * i))), (1, .int .i64 n), (7, .own 0 1 (List.map I (nums l i)))]⟩, [tik 1 ((nums l i).length * 1)]⟩
def en53 (l : List Int) (n : Int) : PS := ⟨⟨40, [(7, ints (nums l n.toNat)), (0, bts (l.drop (8 * n.toNat)))]⟩, []⟩
theorem lp53 (iso : Nat → List PV → Option PV) (shr : Nat → List PV → List Pv.Box → Option (PV × List Pv.Box)) (hC : OrcOk Try.prog X.G ⟨iso, shr, ownS X.sh, []⟩)  (l : List Int) (n : Int) (hb : B8 l) (hl : l.length ≤ LB) : ((∀ j, j < n.toNat → decide (8 * (j + 1) ≤ l.length) = true) → LoopOk Try.prog X.G 0 (lpB Try.f53 3) (hd53 l n 0) (.exit 0) (en53 l n)) ∧ (∀ j, j < n.toNat → decide (8 * (j + 1) ≤ l.length) = false → (∀ k, k < j → decide (8 * (k + 1) ≤ l.length) = true) → LoopOk Try.prog X.G 0 (lpB Try.f53 3) (hd53 l n 0) .ret ⟨⟨40, [(4, ints []), (5, bts []), (6, .int .i64 4)]⟩, []⟩) := by
  refine loop_first (S := hd53 l n) (c := fun i => decide (8 * (i + 1) ≤ l.length)) (e1 := fun i => (.ret, ⟨⟨40, [(4, ints []), (5, bts []), (6, .int .i64 4)]⟩, []⟩)) (e2 := (.exit 0, en53 l n)) (fun i hi hc ep sp nx => ?_) (fun i hi hc => ?_) ?_
  · refine round_ok env.mixed hC (by kernel_rfl) (r53 iso shr l n i) ?_
    simp only [Holds, Pv.Next]
    rw [LB_eq] at hl
    have hnl := nums_len l i
    have hns := nums_succ l i
    have hnb : num l i = IntKind.wrap .i64 (bu ((l.drop (8 * i)).take 8)) := (bu_be _).symm
    have hdl : (l.drop (8 * i)).length = l.length - 8 * i := List.length_drop
    have hdd : (l.drop (8 * i)).drop 8 = l.drop (8 * (i + 1)) := by rw [List.drop_drop]; congr 1
    have hB := hb.drop (8 * i)
    simp only [decide_eq_true_eq, decide_eq_false_iff_not] at hc
    refine ⟨fun h0 => ?_, fun h0 => ?_⟩
    · have g0 := of_decide_eq_true h0
      try simp only [List.length_map] at g0
      refine ⟨fun h1 => ?_, fun h1 => ?_⟩
      · have g1 := of_decide_eq_true h1
        try simp only [List.length_map] at g1
        refine ⟨by trivial, ?_⟩
        refine ⟨?_, ?_⟩
        · exact ⟨trivial, (by trivial), ⟨(by exact VW.nl 1 rfl), (by exact VW.nl 1 rfl), (by exact VW.int rfl), trivial⟩, trivial⟩
        (omega)
      · have g1 := of_decide_eq_false h1
        try simp only [List.length_map] at g1
        refine ⟨?_, ?_⟩
        · exact ⟨trivial, (by trivial), ⟨(by exact VW.int rfl), (by exact VW.lst rfl rfl), (by exact VW.int rfl), (by exact VW.int rfl), (by exact VW.int rfl), (by exact VW.own rfl rfl rfl), trivial⟩, ⟨(by exact BW.tik rfl rfl), trivial⟩⟩
        refine ⟨?_, ?_⟩
        · exact lp53i iso shr hC _ _ _ _ hB (by omega)
        refine ⟨?_, ?_⟩
        · exact appX (f := I) (by rw [hns, hnb]) Try.underlying23 sz3 z3 (bytes3 (by omega)) rfl rfl rfl rfl
        refine ⟨?_, ?_⟩
        · exact sl_lo (by omega) (by omega)
        refine ⟨?_, ?_⟩
        · exact ⟨trivial, (by trivial), ⟨(by exact VW.int (wsucc (by omega))), (by exact VW.lst rfl (by exact congrArg (List.map U8) hdd)), (by exact VW.int rfl), (by exact VW.own rfl rfl rfl), trivial⟩, ⟨(by exact BW.tik rfl rfl), trivial⟩⟩
        exact nx
    · have g0 := of_decide_eq_false h0
      try simp only [List.length_map] at g0
      refine ⟨by trivial, ?_⟩
      refine ⟨?_, ?_⟩
      · (omega)
      (omega)
  · refine round_ok env.mixed hC (by kernel_rfl) (r53 iso shr l n i) ?_
    simp only [Holds, Pv.Next]
    rw [LB_eq] at hl
    have hnl := nums_len l i
    have hns := nums_succ l i
    have hnb : num l i = IntKind.wrap .i64 (bu ((l.drop (8 * i)).take 8)) := (bu_be _).symm
    have hdl : (l.drop (8 * i)).length = l.length - 8 * i := List.length_drop
    have hdd : (l.drop (8 * i)).drop 8 = l.drop (8 * (i + 1)) := by rw [List.drop_drop]; congr 1
    have hB := hb.drop (8 * i)
    simp only [decide_eq_true_eq, decide_eq_false_iff_not] at hc
    refine ⟨fun h0 => ?_, fun h0 => ?_⟩
    · have g0 := of_decide_eq_true h0
      try simp only [List.length_map] at g0
      refine ⟨fun h1 => ?_, fun h1 => ?_⟩
      · have g1 := of_decide_eq_true h1
        try simp only [List.length_map] at g1
        refine ⟨by trivial, ?_⟩
        refine ⟨?_, ?_⟩
        · exact ⟨trivial, (by trivial), ⟨(by exact VW.nl 1 rfl), (by exact VW.nl 1 rfl), (by exact VW.int rfl), trivial⟩, trivial⟩
        exact ⟨trivial, rfl⟩
      · have g1 := of_decide_eq_false h1
        try simp only [List.length_map] at g1
        refine ⟨?_, ?_⟩
        · exact ⟨trivial, (by trivial), ⟨(by exact VW.int rfl), (by exact VW.lst rfl rfl), (by exact VW.int rfl), (by exact VW.int rfl), (by exact VW.int rfl), (by exact VW.own rfl rfl rfl), trivial⟩, ⟨(by exact BW.tik rfl rfl), trivial⟩⟩
        refine ⟨?_, ?_⟩
        · exact lp53i iso shr hC _ _ _ _ hB (by omega)
        refine ⟨?_, ?_⟩
        · exact appX (f := I) (by rw [hns, hnb]) Try.underlying23 sz3 z3 (bytes3 (by omega)) rfl rfl rfl rfl
        refine ⟨?_, ?_⟩
        · exact sl_lo (by omega) (by omega)
        refine ⟨?_, ?_⟩
        · exact ⟨trivial, (by trivial), ⟨(by exact VW.int (wsucc (by omega))), (by exact VW.lst rfl (by exact congrArg (List.map U8) hdd)), (by exact VW.int rfl), (by exact VW.own rfl rfl rfl), trivial⟩, ⟨(by exact BW.tik rfl rfl), trivial⟩⟩
        (omega)
    · have g0 := of_decide_eq_false h0
      try simp only [List.length_map] at g0
      refine ⟨by trivial, ?_⟩
      refine ⟨?_, ?_⟩
      · (omega)
      (omega)
  · refine round_ok env.mixed hC (by kernel_rfl) (r53 iso shr l n (n.toNat)) ?_
    simp only [Holds, Pv.Next]
    rw [LB_eq] at hl
    have hnl := nums_len l (n.toNat)
    have hns := nums_succ l (n.toNat)
    have hnb : num l (n.toNat) = IntKind.wrap .i64 (bu ((l.drop (8 * (n.toNat))).take 8)) := (bu_be _).symm
    have hdl : (l.drop (8 * (n.toNat))).length = l.length - 8 * (n.toNat) := List.length_drop
    have hdd : (l.drop (8 * (n.toNat))).drop 8 = l.drop (8 * ((n.toNat) + 1)) := by rw [List.drop_drop]; congr 1
    have hB := hb.drop (8 * (n.toNat))
    refine ⟨fun h0 => ?_, fun h0 => ?_⟩
    · have g0 := of_decide_eq_true h0
      try simp only [List.length_map] at g0
      refine ⟨fun h1 => ?_, fun h1 => ?_⟩
      · have g1 := of_decide_eq_true h1
        try simp only [List.length_map] at g1
        refine ⟨by trivial, ?_⟩
        refine ⟨?_, ?_⟩
        · exact ⟨trivial, (by trivial), ⟨(by exact VW.nl 1 rfl), (by exact VW.nl 1 rfl), (by exact VW.int rfl), trivial⟩, trivial⟩
        (omega)
      · have g1 := of_decide_eq_false h1
        try simp only [List.length_map] at g1
        refine ⟨?_, ?_⟩
        · exact ⟨trivial, (by trivial), ⟨(by exact VW.int rfl), (by exact VW.lst rfl rfl), (by exact VW.int rfl), (by exact VW.int rfl), (by exact VW.int rfl), (by exact VW.own rfl rfl rfl), trivial⟩, ⟨(by exact BW.tik rfl rfl), trivial⟩⟩
        refine ⟨?_, ?_⟩
        · exact lp53i iso shr hC _ _ _ _ hB (by omega)
        refine ⟨?_, ?_⟩
        · exact appX (f := I) (by rw [hns, hnb]) Try.underlying23 sz3 z3 (bytes3 (by omega)) rfl rfl rfl rfl
        refine ⟨?_, ?_⟩
        · exact sl_lo (by omega) (by omega)
        refine ⟨?_, ?_⟩
        · exact ⟨trivial, (by trivial), ⟨(by exact VW.int (wsucc (by omega))), (by exact VW.lst rfl (by exact congrArg (List.map U8) hdd)), (by exact VW.int rfl), (by exact VW.own rfl rfl rfl), trivial⟩, ⟨(by exact BW.tik rfl rfl), trivial⟩⟩
        (omega)
    · have g0 := of_decide_eq_false h0
      try simp only [List.length_map] at g0
      refine ⟨by trivial, ?_⟩
      refine ⟨?_, ?_⟩
      · exact ⟨trivial, (by trivial), ⟨(by exact VW.ol rfl rfl), (by exact VW.lst rfl rfl), trivial⟩, trivial⟩
      exact ⟨trivial, rfl⟩
theorem ok53  (l : List Int) (n : Int) (hb : B8 l) (hl : l.length ≤ LB) : Ok Try.prog X.G 53 [bts l, .int .i64 n] (.tup [ints (tR l n.toNat), bts (tL l n.toNat), .int .i64 (tE l n.toNat)]) := by
  obtain ⟨iso, shr, hC⟩ : ∃ iso shr, OrcOk Try.prog X.G ⟨iso, shr, ownS X.sh, []⟩ := ⟨_, _, iso0⟩
  by_cases he : ∀ j, j < n.toNat → decide (8 * (j + 1) ≤ l.length) = true
  ·
    refine wok env hC fd53 (t53a iso shr l n) ?_ hhS
    simp only [Holds]
    refine ⟨?_, ?_⟩
    · exact ⟨trivial, (by trivial), ⟨(by exact VW.int rfl), (by exact VW.lst rfl rfl), (by exact VW.int rfl), (by exact VW.no rfl), trivial⟩, ⟨(by exact BW.flat rfl (fun c hc => by simp at hc)), trivial⟩⟩
    refine ⟨?_, ?_⟩
    · exact (lp53 iso shr hC l n hb hl).1 he
    ((have q := t_ok (t_all he); rw [q.1, q.2.1, q.2.2]; exact ⟨_, _, rfl, Sub.refl _⟩))
  · obtain ⟨j, j1, j2, j3⟩ := first_false he
    refine wok env hC fd53 (t53b iso shr l n j) ?_ hhS
    simp only [Holds]
    refine ⟨?_, ?_⟩
    · exact ⟨trivial, (by trivial), ⟨(by exact VW.int rfl), (by exact VW.lst rfl rfl), (by exact VW.int rfl), (by exact VW.no rfl), trivial⟩, ⟨(by exact BW.flat rfl (fun c hc => by simp at hc)), trivial⟩⟩
    refine ⟨?_, ?_⟩
    · exact (lp53 iso shr hC l n hb hl).2 j j1 j2 j3
    ((have q := t_no (t_stop j1 j2); rw [q.1, q.2.1, q.2.2]; exact ⟨_, _, rfl, Sub.refl _⟩))
theorem lc1 : ∃ (iso : Nat → List PV → Option PV) (shr : Nat → List PV → List Pv.Box → Option (PV × List Pv.Box)), OrcOk Try.prog X.G ⟨iso, shr, ownS X.sh, []⟩ ∧ (∀ (l : List Int) (n : Int), B8 l ∧ l.length ≤ LB → iso 53 [bts l, .int .i64 n] = some (.tup [ints (tR l n.toNat), bts (tL l n.toNat), .int .i64 (tE l n.toNat)])) := by
  obtain ⟨h53, e53, o53⟩ := ent_ex (fun q : (List Int) × (Int) => B8 (q.1) ∧ (q.1).length ≤ LB) (fun q => ([bts (q.1), .int .i64 (q.2)], .tup [ints (tR (q.1) (q.2).toNat), bts (tL (q.1) (q.2).toNat), .int .i64 (tE (q.1) (q.2).toNat)])) (fun a b h => by simp only [List.cons.injEq, ints_inj, cells_inj, vars_inj, VD_inj, St_inj, PV.int.injEq, rd_inj, bts_inj, and_true, true_and] at h; simp only [h])
  have hT : TabOk Try.prog X.G [(53, h53)] := tk (fun l r e => by obtain ⟨a, ha, rfl, rfl⟩ := o53 l r e; exact ok53 (a.1) (a.2) ha.1 ha.2) tn
  have hS : TabSOk Try.prog X.G [] := tn'
  exact ⟨_, _, orcS hT hS, fun l n hp => e53 (l, n) hp⟩
theorem ok52  (l : List Int) (n : Int) (hb : B8 l) (hl : l.length ≤ LB) : Ok Try.prog X.G 52 [bts l, .int .i64 n] (.tup [ints (kR l n), bts (kL l n), .int .i64 (kE l n)]) := by
  obtain ⟨iso, shr, hC, e53⟩ := lc1
  have hd : B8 (l.drop 2) ∧ (l.drop 2).length ≤ LB := ⟨hb.drop 2, by rw [List.length_drop]; omega⟩
  have q1 : l.length < 2 → kR l n = [] ∧ kL l n = [] ∧ kE l n = 4 := fun h => by unfold kR kL kE; rw [if_pos h, if_pos h, if_pos h]; exact ⟨rfl, rfl, rfl⟩
  have q2 : ¬ l.length < 2 → kN l > n → kR l n = [] ∧ kL l n = [] ∧ kE l n = 5 := fun h h' => by unfold kR kL kE; rw [if_neg h, if_neg h, if_neg h, if_pos h', if_pos h', if_pos h']; exact ⟨rfl, rfl, rfl⟩
  have q3 : ¬ l.length < 2 → ¬ kN l > n → kR l n = tR (l.drop 2) (kN l).toNat ∧ kL l n = tL (l.drop 2) (kN l).toNat ∧ kE l n = tE (l.drop 2) (kN l).toNat := fun h h' => by unfold kR kL kE; rw [if_neg h, if_neg h, if_neg h, if_neg h', if_neg h', if_neg h']; exact ⟨rfl, rfl, rfl⟩
  refine wok env hC fd52 (t52 iso shr l n) ?_ hhS
  simp only [Holds]
  refine ⟨fun h0 => ?_, fun h0 => ?_⟩
  · have g0 := of_decide_eq_true h0
    try simp only [List.length_map] at g0
    ((have q := q1 (by omega); rw [q.1, q.2.1, q.2.2]; exact ⟨_, _, rfl, Sub.tup (.cons (Sub.nils 1) (.cons (Sub.nils 1) (.cons (Sub.refl _) .nil)))⟩))
  · have g0 := of_decide_eq_false h0
    try simp only [List.length_map] at g0
    refine ⟨?_, ?_⟩
    · exact px55 (i := 0) (by omega)
    refine ⟨?_, ?_⟩
    · exact px55 (i := 1) (by omega)
    refine ⟨fun h1 => ?_, fun h1 => ?_⟩
    · have g1 := of_decide_eq_true h1
      try simp only [List.length_map] at g1
      ((have q := q2 (by omega) (by assumption); rw [q.1, q.2.1, q.2.2]; exact ⟨_, _, rfl, Sub.tup (.cons (Sub.nils 1) (.cons (Sub.nils 1) (.cons (Sub.refl _) .nil)))⟩))
    · have g1 := of_decide_eq_false h1
      try simp only [List.length_map] at g1
      refine ⟨?_, ?_⟩
      · exact sl_lo (n := 2) (by omega) (by omega)
      refine ⟨?_, ?_⟩
      · exact pcallv_iso rfl rfl (e53 _ _ hd)
      ((have q := q3 (by omega) (by omega); rw [q.1, q.2.1, q.2.2]; exact ⟨_, _, rfl, Sub.refl _⟩))
theorem lc2 : ∃ (iso : Nat → List PV → Option PV) (shr : Nat → List PV → List Pv.Box → Option (PV × List Pv.Box)), OrcOk Try.prog X.G ⟨iso, shr, ownS X.sh, []⟩ ∧ (∀ (l : List Int) (n : Int), B8 l ∧ l.length ≤ LB → iso 53 [bts l, .int .i64 n] = some (.tup [ints (tR l n.toNat), bts (tL l n.toNat), .int .i64 (tE l n.toNat)])) ∧ (∀ (l : List Int) (n : Int), B8 l ∧ l.length ≤ LB → iso 52 [bts l, .int .i64 n] = some (.tup [ints (kR l n), bts (kL l n), .int .i64 (kE l n)])) ∧ (∀ (l : List VD), l.length ≤ BB → iso 15 [vars l] = some (.bool (valV l))) := by
  obtain ⟨h53, e53, o53⟩ := ent_ex (fun q : (List Int) × (Int) => B8 (q.1) ∧ (q.1).length ≤ LB) (fun q => ([bts (q.1), .int .i64 (q.2)], .tup [ints (tR (q.1) (q.2).toNat), bts (tL (q.1) (q.2).toNat), .int .i64 (tE (q.1) (q.2).toNat)])) (fun a b h => by simp only [List.cons.injEq, ints_inj, cells_inj, vars_inj, VD_inj, St_inj, PV.int.injEq, rd_inj, bts_inj, and_true, true_and] at h; simp only [h])
  obtain ⟨h52, e52, o52⟩ := ent_ex (fun q : (List Int) × (Int) => B8 (q.1) ∧ (q.1).length ≤ LB) (fun q => ([bts (q.1), .int .i64 (q.2)], .tup [ints (kR (q.1) (q.2)), bts (kL (q.1) (q.2)), .int .i64 (kE (q.1) (q.2))])) (fun a b h => by simp only [List.cons.injEq, ints_inj, cells_inj, vars_inj, VD_inj, St_inj, PV.int.injEq, rd_inj, bts_inj, and_true, true_and] at h; simp only [h])
  obtain ⟨h15, e15, o15⟩ := ent_ex (fun q : List VD => (q).length ≤ BB) (fun q => ([vars (q)], .bool (valV (q)))) (fun a b h => by simp only [List.cons.injEq, ints_inj, cells_inj, vars_inj, VD_inj, St_inj, PV.int.injEq, rd_inj, bts_inj, and_true, true_and] at h; simp only [h])
  have hT : TabOk Try.prog X.G [(53, h53), (52, h52), (15, h15)] := tk (fun l r e => by obtain ⟨a, ha, rfl, rfl⟩ := o53 l r e; exact ok53 (a.1) (a.2) ha.1 ha.2) (tk (fun l r e => by obtain ⟨a, ha, rfl, rfl⟩ := o52 l r e; exact ok52 (a.1) (a.2) ha.1 ha.2) (tk (fun l r e => by obtain ⟨a, ha, rfl, rfl⟩ := o15 l r e; exact ok15 (a) ha) tn))
  have hS : TabSOk Try.prog X.G [] := tn'
  exact ⟨_, _, orcS hT hS, fun l n hp => e53 (l, n) hp, fun l n hp => e52 (l, n) hp, fun l hp => e15 l hp⟩
def hd33 (l : List VD) (b : List Int) (i : Nat) : PS := ⟨⟨83, [(4, .ptr 0 0), (7, .int .i64 ((i : Nat) : Int)), (6, .ptr 1 0), (1, bts (dL l b i)), (0, vars l)]⟩, [n3, ⟨3, [.own 2 1 (List.map ints (dC l b i)), .nils, .nils], 0⟩, tik 1 ((dC l b i).length * 1)]⟩
def en33 (l : List VD) (b : List Int) : PS := ⟨⟨83, [(4, .ptr 0 0), (6, .ptr 1 0), (1, bts (dL l b l.length))]⟩, [n3, ⟨3, [.lst 1 (List.map ints (dC l b l.length)), .nils, .nils], 0⟩]⟩
theorem lp33 (iso : Nat → List PV → Option PV) (shr : Nat → List PV → List Pv.Box → Option (PV × List Pv.Box)) (hC : OrcOk Try.prog X.G ⟨iso, shr, ownS X.sh, []⟩) (e53 : ∀ (l : List Int) (n : Int), B8 l ∧ l.length ≤ LB → iso 53 [bts l, .int .i64 n] = some (.tup [ints (tR l n.toNat), bts (tL l n.toNat), .int .i64 (tE l n.toNat)])) (e52 : ∀ (l : List Int) (n : Int), B8 l ∧ l.length ≤ LB → iso 52 [bts l, .int .i64 n] = some (.tup [ints (kR l n), bts (kL l n), .int .i64 (kE l n)])) (l : List VD) (b : List Int) (hb : B8 b) (hl : b.length ≤ LB) (hll : l.length ≤ BB) : ((∀ j, j < l.length → decide (dE l b j = 0) = true) → LoopOk Try.prog X.G 0 (lpB Try.f33 5) (hd33 l b 0) (.exit 0) (en33 l b)) ∧ (∀ j, j < l.length → decide (dE l b j = 0) = false → (∀ k, k < j → decide (dE l b k = 0) = true) → LoopOk Try.prog X.G 0 (lpB Try.f33 5) (hd33 l b 0) .ret ⟨⟨83, [(4, .ptr 0 0), (5, .int .i64 (dE l b j))]⟩, [n3]⟩) := by
  refine loop_first (S := hd33 l b) (c := fun i => decide (dE l b i = 0)) (e1 := fun i => (.ret, ⟨⟨83, [(4, .ptr 0 0), (5, .int .i64 (dE l b i))]⟩, [n3]⟩)) (e2 := (.exit 0, en33 l b)) (fun i hi hc ep sp nx => ?_) (fun i hi hc => ?_) ?_
  · refine round_ok env.mixed hC (by kernel_rfl) (r33 iso shr l b i) ?_
    simp only [Holds, Pv.Next]
    rw [BB_eq] at hll
    have hcl := dC_len l b i
    have hcs := dC_succ l b i
    have hB : B8 (dL l b i) ∧ (dL l b i).length ≤ LB := ⟨hb.dL i, Nat.le_trans (dL_len l b i) hl⟩
    simp only [decide_eq_true_eq, decide_eq_false_iff_not] at hc
    have s1 : (l.getD i default).k = 3 → dR l b i = kR (dL l b i) 1000 ∧ dE l b i = kE (dL l b i) 1000 ∧ dL l b (i + 1) = kL (dL l b i) 1000 := fun h => by unfold dR dE; rw [dL]; unfold sR sE sL; rw [if_pos h, if_pos h, if_pos h]; exact ⟨rfl, rfl, rfl⟩
    have s2 : ¬ (l.getD i default).k = 3 → dR l b i = tR (dL l b i) (mx1 (l.getD i default).n).toNat ∧ dE l b i = tE (dL l b i) (mx1 (l.getD i default).n).toNat ∧ dL l b (i + 1) = tL (dL l b i) (mx1 (l.getD i default).n).toNat := fun h => by unfold dR dE; rw [dL]; unfold sR sE sL; rw [if_neg h, if_neg h, if_neg h]; exact ⟨rfl, rfl, rfl⟩
    refine ⟨fun h0 => ?_, fun h0 => ?_⟩
    · have g0 := of_decide_eq_true h0
      try simp only [List.length_map] at g0
      refine ⟨?_, ?_⟩
      · exact px22 (by omega)
      refine ⟨fun h1 => ?_, fun h1 => ?_⟩
      · have g1 := beq_iff_eq.1 h1
        try simp only [List.length_map] at g1
        refine ⟨?_, ?_⟩
        · exact pcallv_iso rfl rfl (e52 _ _ hB)
        refine ⟨fun h2 => ?_, fun h2 => ?_⟩
        · have g2 := bne_iff_ne.1 h2
          try simp only [List.length_map] at g2
          refine ⟨by trivial, ?_⟩
          refine ⟨?_, ?_⟩
          · (exact ⟨trivial, (by trivial), ⟨(by exact VW.ptr rfl rfl), (by exact VW.int (s1 (by assumption)).2.1.symm), trivial⟩, ⟨(by (exact BW.flat rfl (fun c hc => by simp only [List.mem_cons, List.not_mem_nil, or_false, or_self] at hc; subst hc; exact NB.nils))), trivial⟩⟩)
          (omega)
        · have g2 := bne_eq_false_iff_eq.1 h2
          try simp only [List.length_map] at g2
          refine ⟨?_, ?_⟩
          · exact appX (f := ints) (by rw [hcs, (s1 (by assumption)).1]) Try.underlying25 sz23 z23 (bytes23 (by omega)) rfl rfl rfl rfl
          refine ⟨?_, ?_⟩
          · (exact ⟨trivial, (by trivial), ⟨(by exact VW.ptr rfl rfl), (by exact VW.int (wsucc (by omega))), (by exact VW.ptr rfl rfl), (by exact VW.lst rfl (by exact congrArg (List.map U8) (s1 (by assumption)).2.2.symm)), (by exact VW.lst rfl rfl), trivial⟩, ⟨(by (exact BW.flat rfl (fun c hc => by simp only [List.mem_cons, List.not_mem_nil, or_false, or_self] at hc; subst hc; exact NB.nils))), (by exact BW.cells (.cons (VW.own rfl rfl rfl) (.cons VW.nils (.cons VW.nils .nil)))), (by exact BW.tik rfl rfl), trivial⟩⟩)
          exact nx
      · have g1 := beq_eq_false_iff_ne.1 h1
        try simp only [List.length_map] at g1
        refine ⟨?_, ?_⟩
        · exact px22 (by omega)
        refine ⟨?_, ?_⟩
        · exact pcallv_iso rfl rfl (e53 _ _ hB)
        refine ⟨fun h3 => ?_, fun h3 => ?_⟩
        · have g3 := bne_iff_ne.1 h3
          try simp only [List.length_map] at g3
          refine ⟨by trivial, ?_⟩
          refine ⟨?_, ?_⟩
          · (exact ⟨trivial, (by trivial), ⟨(by exact VW.ptr rfl rfl), (by exact VW.int (s2 (by assumption)).2.1.symm), trivial⟩, ⟨(by (exact BW.flat rfl (fun c hc => by simp only [List.mem_cons, List.not_mem_nil, or_false, or_self] at hc; subst hc; exact NB.nils))), trivial⟩⟩)
          (omega)
        · have g3 := bne_eq_false_iff_eq.1 h3
          try simp only [List.length_map] at g3
          refine ⟨?_, ?_⟩
          · exact appX (f := ints) (by rw [hcs, (s2 (by assumption)).1]) Try.underlying25 sz23 z23 (bytes23 (by omega)) rfl rfl rfl rfl
          refine ⟨?_, ?_⟩
          · (exact ⟨trivial, (by trivial), ⟨(by exact VW.ptr rfl rfl), (by exact VW.int (wsucc (by omega))), (by exact VW.ptr rfl rfl), (by exact VW.lst rfl (by exact congrArg (List.map U8) (s2 (by assumption)).2.2.symm)), (by exact VW.lst rfl rfl), trivial⟩, ⟨(by (exact BW.flat rfl (fun c hc => by simp only [List.mem_cons, List.not_mem_nil, or_false, or_self] at hc; subst hc; exact NB.nils))), (by exact BW.cells (.cons (VW.own rfl rfl rfl) (.cons VW.nils (.cons VW.nils .nil)))), (by exact BW.tik rfl rfl), trivial⟩⟩)
          exact nx
    · have g0 := of_decide_eq_false h0
      try simp only [List.length_map] at g0
      refine ⟨by trivial, ?_⟩
      refine ⟨?_, ?_⟩
      · (omega)
      (omega)
  · refine round_ok env.mixed hC (by kernel_rfl) (r33 iso shr l b i) ?_
    simp only [Holds, Pv.Next]
    rw [BB_eq] at hll
    have hcl := dC_len l b i
    have hcs := dC_succ l b i
    have hB : B8 (dL l b i) ∧ (dL l b i).length ≤ LB := ⟨hb.dL i, Nat.le_trans (dL_len l b i) hl⟩
    simp only [decide_eq_true_eq, decide_eq_false_iff_not] at hc
    have s1 : (l.getD i default).k = 3 → dR l b i = kR (dL l b i) 1000 ∧ dE l b i = kE (dL l b i) 1000 ∧ dL l b (i + 1) = kL (dL l b i) 1000 := fun h => by unfold dR dE; rw [dL]; unfold sR sE sL; rw [if_pos h, if_pos h, if_pos h]; exact ⟨rfl, rfl, rfl⟩
    have s2 : ¬ (l.getD i default).k = 3 → dR l b i = tR (dL l b i) (mx1 (l.getD i default).n).toNat ∧ dE l b i = tE (dL l b i) (mx1 (l.getD i default).n).toNat ∧ dL l b (i + 1) = tL (dL l b i) (mx1 (l.getD i default).n).toNat := fun h => by unfold dR dE; rw [dL]; unfold sR sE sL; rw [if_neg h, if_neg h, if_neg h]; exact ⟨rfl, rfl, rfl⟩
    refine ⟨fun h0 => ?_, fun h0 => ?_⟩
    · have g0 := of_decide_eq_true h0
      try simp only [List.length_map] at g0
      refine ⟨?_, ?_⟩
      · exact px22 (by omega)
      refine ⟨fun h1 => ?_, fun h1 => ?_⟩
      · have g1 := beq_iff_eq.1 h1
        try simp only [List.length_map] at g1
        refine ⟨?_, ?_⟩
        · exact pcallv_iso rfl rfl (e52 _ _ hB)
        refine ⟨fun h2 => ?_, fun h2 => ?_⟩
        · have g2 := bne_iff_ne.1 h2
          try simp only [List.length_map] at g2
          refine ⟨by trivial, ?_⟩
          refine ⟨?_, ?_⟩
          · (exact ⟨trivial, (by trivial), ⟨(by exact VW.ptr rfl rfl), (by exact VW.int (s1 (by assumption)).2.1.symm), trivial⟩, ⟨(by (exact BW.flat rfl (fun c hc => by simp only [List.mem_cons, List.not_mem_nil, or_false, or_self] at hc; subst hc; exact NB.nils))), trivial⟩⟩)
          exact ⟨trivial, rfl⟩
        · have g2 := bne_eq_false_iff_eq.1 h2
          try simp only [List.length_map] at g2
          refine ⟨?_, ?_⟩
          · exact appX (f := ints) (by rw [hcs, (s1 (by assumption)).1]) Try.underlying25 sz23 z23 (bytes23 (by omega)) rfl rfl rfl rfl
          refine ⟨?_, ?_⟩
          · (exact ⟨trivial, (by trivial), ⟨(by exact VW.ptr rfl rfl), (by exact VW.int (wsucc (by omega))), (by exact VW.ptr rfl rfl), (by exact VW.lst rfl (by exact congrArg (List.map U8) (s1 (by assumption)).2.2.symm)), (by exact VW.lst rfl rfl), trivial⟩, ⟨(by (exact BW.flat rfl (fun c hc => by simp only [List.mem_cons, List.not_mem_nil, or_false, or_self] at hc; subst hc; exact NB.nils))), (by exact BW.cells (.cons (VW.own rfl rfl rfl) (.cons VW.nils (.cons VW.nils .nil)))), (by exact BW.tik rfl rfl), trivial⟩⟩)
          (omega)
      · have g1 := beq_eq_false_iff_ne.1 h1
        try simp only [List.length_map] at g1
        refine ⟨?_, ?_⟩
        · exact px22 (by omega)
        refine ⟨?_, ?_⟩
        · exact pcallv_iso rfl rfl (e53 _ _ hB)
        refine ⟨fun h3 => ?_, fun h3 => ?_⟩
        · have g3 := bne_iff_ne.1 h3
          try simp only [List.length_map] at g3
          refine ⟨by trivial, ?_⟩
          refine ⟨?_, ?_⟩
          · (exact ⟨trivial, (by trivial), ⟨(by exact VW.ptr rfl rfl), (by exact VW.int (s2 (by assumption)).2.1.symm), trivial⟩, ⟨(by (exact BW.flat rfl (fun c hc => by simp only [List.mem_cons, List.not_mem_nil, or_false, or_self] at hc; subst hc; exact NB.nils))), trivial⟩⟩)
          exact ⟨trivial, rfl⟩
        · have g3 := bne_eq_false_iff_eq.1 h3
          try simp only [List.length_map] at g3
          refine ⟨?_, ?_⟩
          · exact appX (f := ints) (by rw [hcs, (s2 (by assumption)).1]) Try.underlying25 sz23 z23 (bytes23 (by omega)) rfl rfl rfl rfl
          refine ⟨?_, ?_⟩
          · (exact ⟨trivial, (by trivial), ⟨(by exact VW.ptr rfl rfl), (by exact VW.int (wsucc (by omega))), (by exact VW.ptr rfl rfl), (by exact VW.lst rfl (by exact congrArg (List.map U8) (s2 (by assumption)).2.2.symm)), (by exact VW.lst rfl rfl), trivial⟩, ⟨(by (exact BW.flat rfl (fun c hc => by simp only [List.mem_cons, List.not_mem_nil, or_false, or_self] at hc; subst hc; exact NB.nils))), (by exact BW.cells (.cons (VW.own rfl rfl rfl) (.cons VW.nils (.cons VW.nils .nil)))), (by exact BW.tik rfl rfl), trivial⟩⟩)
          (omega)
    · have g0 := of_decide_eq_false h0
      try simp only [List.length_map] at g0
      refine ⟨by trivial, ?_⟩
      refine ⟨?_, ?_⟩
      · (omega)
      (omega)
  · refine round_ok env.mixed hC (by kernel_rfl) (r33 iso shr l b (l.length)) ?_
    simp only [Holds, Pv.Next]
    rw [BB_eq] at hll
    have hB : B8 (dL l b (l.length)) ∧ (dL l b (l.length)).length ≤ LB := ⟨hb.dL (l.length), Nat.le_trans (dL_len l b (l.length)) hl⟩
    have s1 : (l.getD (l.length) default).k = 3 → dR l b (l.length) = kR (dL l b (l.length)) 1000 ∧ dE l b (l.length) = kE (dL l b (l.length)) 1000 ∧ dL l b ((l.length) + 1) = kL (dL l b (l.length)) 1000 := fun h => by unfold dR dE; rw [dL]; unfold sR sE sL; rw [if_pos h, if_pos h, if_pos h]; exact ⟨rfl, rfl, rfl⟩
    have s2 : ¬ (l.getD (l.length) default).k = 3 → dR l b (l.length) = tR (dL l b (l.length)) (mx1 (l.getD (l.length) default).n).toNat ∧ dE l b (l.length) = tE (dL l b (l.length)) (mx1 (l.getD (l.length) default).n).toNat ∧ dL l b ((l.length) + 1) = tL (dL l b (l.length)) (mx1 (l.getD (l.length) default).n).toNat := fun h => by unfold dR dE; rw [dL]; unfold sR sE sL; rw [if_neg h, if_neg h, if_neg h]; exact ⟨rfl, rfl, rfl⟩
    refine ⟨fun h0 => ?_, fun h0 => ?_⟩
    · have g0 := of_decide_eq_true h0
      try simp only [List.length_map] at g0
      refine ⟨?_, ?_⟩
      · exact px22 (by omega)
      refine ⟨fun h1 => ?_, fun h1 => ?_⟩
      · have g1 := beq_iff_eq.1 h1
        try simp only [List.length_map] at g1
        refine ⟨?_, ?_⟩
        · exact pcallv_iso rfl rfl (e52 _ _ hB)
        refine ⟨fun h2 => ?_, fun h2 => ?_⟩
        · have g2 := bne_iff_ne.1 h2
          try simp only [List.length_map] at g2
          refine ⟨by trivial, ?_⟩
          refine ⟨?_, ?_⟩
          · (exact ⟨trivial, (by trivial), ⟨(by exact VW.ptr rfl rfl), (by exact VW.int (s1 (by assumption)).2.1.symm), trivial⟩, ⟨(by (exact BW.flat rfl (fun c hc => by simp only [List.mem_cons, List.not_mem_nil, or_false, or_self] at hc; subst hc; exact NB.nils))), trivial⟩⟩)
          (omega)
        · have g2 := bne_eq_false_iff_eq.1 h2
          try simp only [List.length_map] at g2
          refine ⟨?_, ?_⟩
          · (omega)
          refine ⟨?_, ?_⟩
          · (exact ⟨trivial, (by trivial), ⟨(by exact VW.ptr rfl rfl), (by exact VW.int (wsucc (by omega))), (by exact VW.ptr rfl rfl), (by exact VW.lst rfl (by exact congrArg (List.map U8) (s1 (by assumption)).2.2.symm)), (by exact VW.lst rfl rfl), trivial⟩, ⟨(by (exact BW.flat rfl (fun c hc => by simp only [List.mem_cons, List.not_mem_nil, or_false, or_self] at hc; subst hc; exact NB.nils))), (by exact BW.cells (.cons (VW.own rfl rfl rfl) (.cons VW.nils (.cons VW.nils .nil)))), (by exact BW.tik rfl rfl), trivial⟩⟩)
          (omega)
      · have g1 := beq_eq_false_iff_ne.1 h1
        try simp only [List.length_map] at g1
        refine ⟨?_, ?_⟩
        · exact px22 (by omega)
        refine ⟨?_, ?_⟩
        · exact pcallv_iso rfl rfl (e53 _ _ hB)
        refine ⟨fun h3 => ?_, fun h3 => ?_⟩
        · have g3 := bne_iff_ne.1 h3
          try simp only [List.length_map] at g3
          refine ⟨by trivial, ?_⟩
          refine ⟨?_, ?_⟩
          · (exact ⟨trivial, (by trivial), ⟨(by exact VW.ptr rfl rfl), (by exact VW.int (s2 (by assumption)).2.1.symm), trivial⟩, ⟨(by (exact BW.flat rfl (fun c hc => by simp only [List.mem_cons, List.not_mem_nil, or_false, or_self] at hc; subst hc; exact NB.nils))), trivial⟩⟩)
          (omega)
        · have g3 := bne_eq_false_iff_eq.1 h3
          try simp only [List.length_map] at g3
          refine ⟨?_, ?_⟩
          · (omega)
          refine ⟨?_, ?_⟩
          · (exact ⟨trivial, (by trivial), ⟨(by exact VW.ptr rfl rfl), (by exact VW.int (wsucc (by omega))), (by exact VW.ptr rfl rfl), (by exact VW.lst rfl (by exact congrArg (List.map U8) (s2 (by assumption)).2.2.symm)), (by exact VW.lst rfl rfl), trivial⟩, ⟨(by (exact BW.flat rfl (fun c hc => by simp only [List.mem_cons, List.not_mem_nil, or_false, or_self] at hc; subst hc; exact NB.nils))), (by exact BW.cells (.cons (VW.own rfl rfl rfl) (.cons VW.nils (.cons VW.nils .nil)))), (by exact BW.tik rfl rfl), trivial⟩⟩)
          (omega)
    · have g0 := of_decide_eq_false h0
      try simp only [List.length_map] at g0
      refine ⟨by trivial, ?_⟩
      refine ⟨?_, ?_⟩
      · (exact ⟨trivial, (by trivial), ⟨(by exact VW.ptr rfl rfl), (by exact VW.ptr rfl rfl), (by exact VW.lst rfl rfl), trivial⟩, ⟨(by (exact BW.flat rfl (fun c hc => by simp only [List.mem_cons, List.not_mem_nil, or_false, or_self] at hc; subst hc; exact NB.nils))), (by exact BW.cells (.cons (VW.ol rfl rfl) (.cons VW.nils (.cons VW.nils .nil)))), trivial⟩⟩)
      exact ⟨trivial, rfl⟩
end Go.Proofs.Ytmkpdbofhpffaaa
