/- The reference's remove. -/
import Derived.Test.YtkfmhmkeikhdbaaDoorKg
import Derived.Test.YtkfmhmkeikhdbaaDoorRd
namespace Go.Proofs.YtkfmhmkeikhdbaaDoor
open Go.Proofs.YtkfmhmkeikhdbaaDoor.Pv Go.RowKit
set_option maxRecDepth 100000
set_option maxHeartbeats 8000000
set_option linter.unusedSimpArgs false
set_option linter.unusedVariables false
def KA (x : Ins) : Prop := x.k = 22 ∨ x.k = 25 ∨ x.k = 30 ∨ x.k = 31 ∨ x.k = 32 ∨ x.k = 33
def KB (x : Ins) : Prop := x.k = 23 ∨ x.k = 24 ∨ x.k = 26 ∨ x.k = 27
theorem iskA22 {x : Ins} (g : (x.k == 22) = true) : KA x := by
  have e := beq_iff_eq.1 g
  exact .inl e
theorem iskA25 {x : Ins} (g : (x.k == 25) = true) : KA x := by
  have e := beq_iff_eq.1 g
  exact .inr (.inl e)
theorem iskA30 {x : Ins} (g : (x.k == 30) = true) : KA x := by
  have e := beq_iff_eq.1 g
  exact .inr (.inr (.inl e))
theorem iskA31 {x : Ins} (g : (x.k == 31) = true) : KA x := by
  have e := beq_iff_eq.1 g
  exact .inr (.inr (.inr (.inl e)))
theorem iskA32 {x : Ins} (g : (x.k == 32) = true) : KA x := by
  have e := beq_iff_eq.1 g
  exact .inr (.inr (.inr (.inr (.inl e))))
theorem iskA33 {x : Ins} (g : (x.k == 33) = true) : KA x := by
  have e := beq_iff_eq.1 g
  exact .inr (.inr (.inr (.inr (.inr (e)))))
theorem iskB23 {x : Ins} (g : (x.k == 23) = true) : KB x := by
  have e := beq_iff_eq.1 g
  exact .inl e
theorem iskB24 {x : Ins} (g : (x.k == 24) = true) : KB x := by
  have e := beq_iff_eq.1 g
  exact .inr (.inl e)
theorem iskB26 {x : Ins} (g : (x.k == 26) = true) : KB x := by
  have e := beq_iff_eq.1 g
  exact .inr (.inr (.inl e))
theorem iskB27 {x : Ins} (g : (x.k == 27) = true) : KB x := by
  have e := beq_iff_eq.1 g
  exact .inr (.inr (.inr (e)))
theorem notk {x : Ins} (n22 : (x.k == 22) = false) (n25 : (x.k == 25) = false) (n30 : (x.k == 30) = false) (n31 : (x.k == 31) = false) (n32 : (x.k == 32) = false) (n33 : (x.k == 33) = false) (n23 : (x.k == 23) = false) (n24 : (x.k == 24) = false) (n26 : (x.k == 26) = false) (n27 : (x.k == 27) = false) : ¬ KA x ∧ ¬ KB x := by
  simp only [beq_eq_false_iff_ne, ne_eq] at *
  unfold KA KB
  constructor <;> omega
def sh1 (k : Nat) (x : Ins) : Ins := rtI x (shft (tgt x) k)
theorem shA {x : Ins} (h : KA x) (k : Nat) : tb x.k = true ∧ tgt x = x.a ∧ sh1 k x = ⟨x.k, shft (tgt x) k, x.b, x.c, x.d⟩ := by
  have htg : tg x.k = 0 := by unfold tg; exact if_pos h
  refine ⟨?_, ?_, ?_⟩
  · unfold tb; rw [htg]; rfl
  · unfold tgt tv; exact if_pos htg
  · unfold sh1 rtI rta rtb; rw [if_pos htg, if_neg (by rw [htg]; decide)]
theorem shB {x : Ins} (h : KB x) (k : Nat) : tb x.k = true ∧ tgt x = x.b ∧ sh1 k x = ⟨x.k, x.a, shft (tgt x) k, x.c, x.d⟩ := by
  have htg : tg x.k = 1 := by
    unfold tg
    rw [if_neg (by unfold KB at h; omega)]
    exact if_pos h
  refine ⟨?_, ?_, ?_⟩
  · unfold tb; rw [htg]; rfl
  · unfold tgt tv; rw [if_neg (by rw [htg]; decide), if_pos htg]
  · unfold sh1 rtI rta rtb; rw [if_neg (by rw [htg]; decide), if_pos htg]
theorem shN {x : Ins} (h : ¬ KA x ∧ ¬ KB x) (k : Nat) : sh1 k x = x := by
  have htg : tg x.k = -1 := by
    unfold tg
    rw [if_neg (by have := h.1; unfold KA at this; exact this), if_neg (by have := h.2; unfold KB at this; exact this)]
  exact rtI_no _ _ (by unfold tb; rw [htg]; rfl)
def rpk (l : List Ins) (k : Nat) : Nat → List Ins
  | 0 => []
  | i + 1 => if i = k ∨ i = k + 1 then rpk l k i else rpk l k i ++ [sh1 k (l.getD i ⟨0, 0, 0, 0, 0⟩)]
theorem rpk_skip {l : List Ins} {k i : Nat} (h : i = k ∨ i = k + 1) : rpk l k (i + 1) = rpk l k i := by
  show (if i = k ∨ i = k + 1 then rpk l k i else _) = _
  exact if_pos h
theorem rpk_next {l : List Ins} {k i : Nat} {x : Ins} (h : ¬ (i = k ∨ i = k + 1)) (hx : l[i]? = some x) : rpk l k (i + 1) = rpk l k i ++ [sh1 k x] := by
  show (if i = k ∨ i = k + 1 then rpk l k i else rpk l k i ++ [sh1 k (l.getD i ⟨0, 0, 0, 0, 0⟩)]) = _
  rw [if_neg h, List.getD_eq_getElem?_getD, hx]
  rfl
theorem rpk_eq (l : List Ins) (k : Nat) : ∀ i, i ≤ l.length → rpk l k i = ((l.take k).take i ++ (l.take i).drop (k + 2)).map (sh1 k)
  | 0, _ => by simp [rpk]
  | i + 1, h => by
    obtain ⟨x, hx⟩ : ∃ x, l[i]? = some x := ⟨_, List.getElem?_eq_getElem (by omega)⟩
    have ih := rpk_eq l k i (by omega)
    by_cases hk : i = k ∨ i = k + 1
    · rw [rpk_skip hk, ih]
      have e1 : (l.take k).take (i + 1) = (l.take k).take i := by
        rw [List.take_take, List.take_take, Nat.min_eq_right (by omega), Nat.min_eq_right (by omega)]
      have e2 : (l.take (i + 1)).drop (k + 2) = (l.take i).drop (k + 2) := by
        rw [List.drop_eq_nil_of_le (by rw [List.length_take]; omega), List.drop_eq_nil_of_le (by rw [List.length_take]; omega)]
      rw [e1, e2]
    · rw [rpk_next hk hx, ih]
      by_cases hi : i < k
      · have e1 : (l.take k).take (i + 1) = (l.take k).take i ++ [x] := by
          rw [List.take_take, List.take_take, Nat.min_eq_left (by omega), Nat.min_eq_left (by omega), List.take_add_one, hx]; rfl
        rw [e1, List.drop_eq_nil_of_le (by rw [List.length_take]; omega), List.drop_eq_nil_of_le (by rw [List.length_take]; omega)]
        simp
      · have e1 : (l.take k).take (i + 1) = (l.take k).take i := by
          rw [List.take_take, List.take_take, Nat.min_eq_right (by omega), Nat.min_eq_right (by omega)]
        have e2 : (l.take (i + 1)).drop (k + 2) = (l.take i).drop (k + 2) ++ [x] := by
          rw [List.take_add_one, hx, List.drop_append_of_le_length (by rw [List.length_take]; omega)]; rfl
        rw [e1, e2]
        simp
theorem rpk_all (l : List Ins) (k : Nat) : rpk l k l.length = rmv l k := by
  rw [rpk_eq l k _ (Nat.le_refl _), List.take_of_length_le (l := l.take k) (by rw [List.length_take]; omega), List.take_of_length_le (Nat.le_refl _)]
  rfl
theorem rpk_len (l : List Ins) (k : Nat) : ∀ i, (rpk l k i).length ≤ i
  | 0 => Nat.le_refl _
  | i + 1 => by
    have := rpk_len l k i
    unfold rpk
    split
    · omega
    · simp; omega
theorem rpk_ne {l : List Ins} {k i : Nat} (h : rpk l k i ≠ []) : ∀ d, rpk l k (i + d) ≠ []
  | 0 => h
  | d + 1 => by
    have := rpk_ne h d
    show rpk l k (i + d + 1) ≠ []
    unfold rpk
    split
    · exact this
    · simp
theorem ok51 (t : Int) (k : Nat) (h : 0 ≤ t ∧ t ≤ 65535) : Ok Tryd.prog X.G 51 [.int .i64 t, .int .i64 ((k : Nat) : Int)] (.int .i64 (shft t k)) := by
  refine wok env (tab_orc tn tn') fd51 (t51 t k) ?_
  simp only [Holds]
  refine ⟨fun g => ?_, fun g => ?_⟩
  · have g' := of_decide_eq_true g
    have e : IntKind.i64.wrap (t - 2) = shft t k := by
      unfold shft
      rw [if_pos g']
      exact w64 (by omega) (by omega)
    rw [e]
    exact ⟨_, _, rfl, Sub.refl _⟩
  · have g' := of_decide_eq_false g
    have e : t = shft t k := by unfold shft; rw [if_neg g']
    exact ⟨_, _, rfl, by rw [← e]; exact Sub.refl _⟩
theorem app37 (o : List Ins) (y : Ins) (ho : o.length ≤ 1000000) : pappend Tryd.prog [⟨5, List.flatMap Ins.cs o, 0⟩, ⟨5, y.cs, 0⟩, ⟨5, y.cs, 0⟩] 3 28 28 (.sl 0 5 0 o.length) (.sl 2 5 0 1) = some (.sl 3 5 0 (List.length (o ++ [y])), [⟨5, List.flatMap Ins.cs o, 2⟩, ⟨5, y.cs, 0⟩, ⟨5, y.cs, 0⟩, ⟨5, List.flatMap Ins.cs (o ++ [y]), 0⟩]) := by
  have hs : ∀ a : Ins, a.cs.length = 5 := fun _ => rfl
  have := pappend_one (P := Tryd.prog) (hp := [⟨5, List.flatMap Ins.cs o, 0⟩, ⟨5, y.cs, 0⟩, ⟨5, y.cs, 0⟩]) (T := 28) (X := 28) (id := 0) (j := 2) (len := o.length) (xs := y.cs) Tryd.underlying28 Tryd.underlying28 sz23 z23 rfl (by decide) rfl rfl rfl rfl (by rw [flatMap_len hs]; exact Nat.le_refl _) (bytes_ok by23 (by omega))
  refine Eq.trans this ?_
  rw [List.take_of_length_le (by rw [flatMap_len hs]; exact Nat.le_refl _)]
  simp
theorem app0 (y : Ins) : pappend Tryd.prog [⟨5, y.cs, 0⟩, ⟨5, y.cs, 0⟩] 2 28 28 .nils (.sl 1 5 0 1) = some (.sl 2 5 0 1, [⟨5, y.cs, 0⟩, ⟨5, y.cs, 0⟩, ⟨5, y.cs, 0⟩]) := by kernel_rfl
theorem nb_c1 {c : PV} {x : Ins} (h : c ∈ x.cs) : NB c := by
  simp only [Ins.cs, List.mem_cons, List.not_mem_nil, or_false] at h
  rcases h with rfl | rfl | rfl | rfl | rfl <;> exact NB.int _ _
def stA (l : List Ins) (k i : Nat) : PS := ⟨⟨56, [(6, .int .i64 ((i : Nat) : Int)), (5, .nils), (1, .int .i64 ((k : Nat) : Int)), (0, code l)]⟩, []⟩
def stB (l : List Ins) (k i : Nat) (o : List Ins) : PS := ⟨⟨56, [(6, .int .i64 ((i : Nat) : Int)), (5, .sl 0 5 0 (List.length o)), (1, .int .i64 ((k : Nat) : Int)), (0, code l)]⟩, [⟨5, List.flatMap Ins.cs o, 0⟩]⟩
def enA : PS := ⟨⟨56, [(5, .nils)]⟩, []⟩
def enB (o : List Ins) : PS := ⟨⟨56, [(5, .sl 0 5 0 (List.length o))]⟩, [⟨5, List.flatMap Ins.cs o, 0⟩]⟩
theorem lp37b (l : List Ins) (k : Nat) (hv : ∀ x ∈ l, vld x = true) (hn : l.length ≤ 1000) (hk : k ≤ 1000) (h : List PV → Option PV) (hT : TabOk Tryd.prog X.G [(51, h)]) (e51 : ∀ (t : Int) (k : Nat), 0 ≤ t ∧ t ≤ 65535 → h [.int .i64 t, .int .i64 ((k : Nat) : Int)] = some (.int .i64 (shft t k))) :
    ∀ r i, i + r = l.length → LoopOk Tryd.prog X.G 0 (lpB Tryd.f37 3) (stB l k i (rpk l k i)) (.exit 0) (enB (rpk l k l.length)) := by
  intro r
  induction r with
  | zero =>
    intro i hi
    obtain rfl : i = l.length := by omega
    refine round_ok env.mixed (tab_orc hT tn') (by kernel_rfl) (r37b h l (rpk l k l.length) l.length k ⟨0, 0, 0, 0, 0⟩ 0) ?_
    simp only [Holds, Pv.Next]
    refine ⟨fun h => absurd (of_decide_eq_true h) (by rw [List.length_map]; omega), fun _ => ⟨trivial, ⟨trivial, trivial, ⟨VW.sl rfl rfl rfl rfl, trivial⟩, ⟨BW.flat rfl (fun c hc => nb_cs hc), trivial⟩⟩, trivial, ?_⟩⟩
    first | exact trivial | rfl
  | succ r ih =>
    intro i hi
    obtain ⟨x, hx⟩ : ∃ x, l[i]? = some x := ⟨_, List.getElem?_eq_getElem (by omega)⟩
    have hs1 := rpk_len l k i
    have px := px_code hx
    have vx := hv x (List.mem_of_getElem? hx)
    have hwk : IntKind.i64.wrap ((k : Int) + 1) = ((k + 1 : Nat) : Int) := wsucc (by omega)
    have cA : KA x → (tab X.sh [(51, h)] []).iso 51 [.int .i64 x.a, .int .i64 ((k : Nat) : Int)] = some (.int .i64 (shft (tgt x) k)) := fun g => by
      have e := shA g k
      have b := vld_tv vx e.1
      rw [e.2.1]
      exact e51 x.a k (by rw [show tv x.k x.a x.b = x.a from e.2.1] at b; exact b)
    have cB : KB x → (tab X.sh [(51, h)] []).iso 51 [.int .i64 x.b, .int .i64 ((k : Nat) : Int)] = some (.int .i64 (shft (tgt x) k)) := fun g => by
      have e := shB g k
      have b := vld_tv vx e.1
      rw [e.2.1]
      exact e51 x.b k (by rw [show tv x.k x.a x.b = x.b from e.2.1] at b; exact b)
    have nx := ih (i + 1) (by omega)
    refine round_ok env.mixed (tab_orc hT tn') (by kernel_rfl) (r37b h l (rpk l k i) i k x (shft (tgt x) k)) ?_
    simp only [Holds, Pv.Next]
    refine ⟨fun _ => ⟨fun hk1 => ⟨⟨trivial, trivial, ⟨VW.int (wsucc (by omega)), VW.sl rfl rfl rfl rfl, VW.int rfl, VW.lst rfl rfl, trivial⟩, ⟨BW.flat rfl (fun c hc => nb_cs hc), trivial⟩⟩, ?_⟩, fun hk1 => ⟨fun hk2 => ⟨⟨trivial, trivial, ⟨VW.int (wsucc (by omega)), VW.sl rfl rfl rfl rfl, VW.int rfl, VW.lst rfl rfl, trivial⟩, ⟨BW.flat rfl (fun c hc => nb_cs hc), trivial⟩⟩, ?_⟩, fun hk2 => ?_⟩⟩, fun h => absurd (of_decide_eq_false h) (by rw [List.length_map]; omega)⟩
    · rw [rpk_skip (.inl (by have := beq_iff_eq.1 hk1; omega))] at nx; exact nx
    · rw [rpk_skip (.inr (by have := beq_iff_eq.1 hk2; rw [hwk] at this; omega))] at nx; exact nx
    · have hne : ¬ (i = k ∨ i = k + 1) := by
        have h1 := beq_eq_false_iff_ne.1 hk1
        have h2 := beq_eq_false_iff_ne.1 hk2
        rw [hwk] at h2
        omega
      rw [rpk_next hne hx] at nx
      have nA : KA x → LoopOk Tryd.prog X.G 0 (lpB Tryd.f37 3) (stB l k (i + 1) (rpk l k i ++ [⟨x.k, shft (tgt x) k, x.b, x.c, x.d⟩])) (.exit 0) (enB (rpk l k l.length)) := fun g => by rw [← (shA g k).2.2]; exact nx
      have nB : KB x → LoopOk Tryd.prog X.G 0 (lpB Tryd.f37 3) (stB l k (i + 1) (rpk l k i ++ [⟨x.k, x.a, shft (tgt x) k, x.c, x.d⟩])) (.exit 0) (enB (rpk l k l.length)) := fun g => by rw [← (shB g k).2.2]; exact nx
      have nN : ¬ KA x ∧ ¬ KB x → LoopOk Tryd.prog X.G 0 (lpB Tryd.f37 3) (stB l k (i + 1) (rpk l k i ++ [x])) (.exit 0) (enB (rpk l k l.length)) := fun g => by rw [shN g k] at nx; exact nx
      exact ⟨congrArg (Option.map fun v => (v, _)) px, ⟨fun g22 => ⟨pcallv_iso rfl rfl (cA (iskA22 g22)), app37 (rpk l k i) ⟨x.k, shft (tgt x) k, x.b, x.c, x.d⟩ (by omega), ⟨trivial, trivial, ⟨VW.int (wsucc (by omega)), VW.sl rfl rfl rfl rfl, VW.int rfl, VW.lst rfl rfl, trivial⟩, ⟨BW.flat rfl (fun c hc => nb_cs hc), trivial⟩⟩, nA (iskA22 g22)⟩, fun n22 => ⟨fun g25 => ⟨pcallv_iso rfl rfl (cA (iskA25 g25)), app37 (rpk l k i) ⟨x.k, shft (tgt x) k, x.b, x.c, x.d⟩ (by omega), ⟨trivial, trivial, ⟨VW.int (wsucc (by omega)), VW.sl rfl rfl rfl rfl, VW.int rfl, VW.lst rfl rfl, trivial⟩, ⟨BW.flat rfl (fun c hc => nb_cs hc), trivial⟩⟩, nA (iskA25 g25)⟩, fun n25 => ⟨fun g30 => ⟨pcallv_iso rfl rfl (cA (iskA30 g30)), app37 (rpk l k i) ⟨x.k, shft (tgt x) k, x.b, x.c, x.d⟩ (by omega), ⟨trivial, trivial, ⟨VW.int (wsucc (by omega)), VW.sl rfl rfl rfl rfl, VW.int rfl, VW.lst rfl rfl, trivial⟩, ⟨BW.flat rfl (fun c hc => nb_cs hc), trivial⟩⟩, nA (iskA30 g30)⟩, fun n30 => ⟨fun g31 => ⟨pcallv_iso rfl rfl (cA (iskA31 g31)), app37 (rpk l k i) ⟨x.k, shft (tgt x) k, x.b, x.c, x.d⟩ (by omega), ⟨trivial, trivial, ⟨VW.int (wsucc (by omega)), VW.sl rfl rfl rfl rfl, VW.int rfl, VW.lst rfl rfl, trivial⟩, ⟨BW.flat rfl (fun c hc => nb_cs hc), trivial⟩⟩, nA (iskA31 g31)⟩, fun n31 => ⟨fun g32 => ⟨pcallv_iso rfl rfl (cA (iskA32 g32)), app37 (rpk l k i) ⟨x.k, shft (tgt x) k, x.b, x.c, x.d⟩ (by omega), ⟨trivial, trivial, ⟨VW.int (wsucc (by omega)), VW.sl rfl rfl rfl rfl, VW.int rfl, VW.lst rfl rfl, trivial⟩, ⟨BW.flat rfl (fun c hc => nb_cs hc), trivial⟩⟩, nA (iskA32 g32)⟩, fun n32 => ⟨fun g33 => ⟨pcallv_iso rfl rfl (cA (iskA33 g33)), app37 (rpk l k i) ⟨x.k, shft (tgt x) k, x.b, x.c, x.d⟩ (by omega), ⟨trivial, trivial, ⟨VW.int (wsucc (by omega)), VW.sl rfl rfl rfl rfl, VW.int rfl, VW.lst rfl rfl, trivial⟩, ⟨BW.flat rfl (fun c hc => nb_cs hc), trivial⟩⟩, nA (iskA33 g33)⟩, fun n33 => ⟨fun g23 => ⟨pcallv_iso rfl rfl (cB (iskB23 g23)), app37 (rpk l k i) ⟨x.k, x.a, shft (tgt x) k, x.c, x.d⟩ (by omega), ⟨trivial, trivial, ⟨VW.int (wsucc (by omega)), VW.sl rfl rfl rfl rfl, VW.int rfl, VW.lst rfl rfl, trivial⟩, ⟨BW.flat rfl (fun c hc => nb_cs hc), trivial⟩⟩, nB (iskB23 g23)⟩, fun n23 => ⟨fun g24 => ⟨pcallv_iso rfl rfl (cB (iskB24 g24)), app37 (rpk l k i) ⟨x.k, x.a, shft (tgt x) k, x.c, x.d⟩ (by omega), ⟨trivial, trivial, ⟨VW.int (wsucc (by omega)), VW.sl rfl rfl rfl rfl, VW.int rfl, VW.lst rfl rfl, trivial⟩, ⟨BW.flat rfl (fun c hc => nb_cs hc), trivial⟩⟩, nB (iskB24 g24)⟩, fun n24 => ⟨fun g26 => ⟨pcallv_iso rfl rfl (cB (iskB26 g26)), app37 (rpk l k i) ⟨x.k, x.a, shft (tgt x) k, x.c, x.d⟩ (by omega), ⟨trivial, trivial, ⟨VW.int (wsucc (by omega)), VW.sl rfl rfl rfl rfl, VW.int rfl, VW.lst rfl rfl, trivial⟩, ⟨BW.flat rfl (fun c hc => nb_cs hc), trivial⟩⟩, nB (iskB26 g26)⟩, fun n26 => ⟨fun g27 => ⟨pcallv_iso rfl rfl (cB (iskB27 g27)), app37 (rpk l k i) ⟨x.k, x.a, shft (tgt x) k, x.c, x.d⟩ (by omega), ⟨trivial, trivial, ⟨VW.int (wsucc (by omega)), VW.sl rfl rfl rfl rfl, VW.int rfl, VW.lst rfl rfl, trivial⟩, ⟨BW.flat rfl (fun c hc => nb_cs hc), trivial⟩⟩, nB (iskB27 g27)⟩, fun n27 => ⟨app37 (rpk l k i) x (by omega), ⟨trivial, trivial, ⟨VW.int (wsucc (by omega)), VW.sl rfl rfl rfl rfl, VW.int rfl, VW.lst rfl rfl, trivial⟩, ⟨BW.flat rfl (fun c hc => nb_cs hc), trivial⟩⟩, nN (notk n22 n25 n30 n31 n32 n33 n23 n24 n26 n27)⟩⟩⟩⟩⟩⟩⟩⟩⟩⟩⟩⟩
theorem lp37a (l : List Ins) (k : Nat) (hv : ∀ x ∈ l, vld x = true) (hn : l.length ≤ 1000) (hk : k ≤ 1000) (h : List PV → Option PV) (hT : TabOk Tryd.prog X.G [(51, h)]) (e51 : ∀ (t : Int) (k : Nat), 0 ≤ t ∧ t ≤ 65535 → h [.int .i64 t, .int .i64 ((k : Nat) : Int)] = some (.int .i64 (shft t k))) :
    ∀ r i, i + r = l.length → rpk l k i = [] → LoopOk Tryd.prog X.G 0 (lpB Tryd.f37 3) (stA l k i) (.exit 0) (if rpk l k l.length = [] then enA else enB (rpk l k l.length)) := by
  intro r
  induction r with
  | zero =>
    intro i hi he
    obtain rfl : i = l.length := by omega
    rw [if_pos he]
    refine round_ok env.mixed (tab_orc hT tn') (by kernel_rfl) (r37a h l l.length k ⟨0, 0, 0, 0, 0⟩ 0) ?_
    simp only [Holds, Pv.Next]
    refine ⟨fun h => absurd (of_decide_eq_true h) (by rw [List.length_map]; omega), fun _ => ⟨trivial, ⟨trivial, trivial, ⟨VW.nils, trivial⟩, trivial⟩, trivial, ?_⟩⟩
    first | exact trivial | rfl
  | succ r ih =>
    intro i hi he
    obtain ⟨x, hx⟩ : ∃ x, l[i]? = some x := ⟨_, List.getElem?_eq_getElem (by omega)⟩
    have hs1 := rpk_len l k i
    have px := px_code hx
    have vx := hv x (List.mem_of_getElem? hx)
    have hwk : IntKind.i64.wrap ((k : Int) + 1) = ((k + 1 : Nat) : Int) := wsucc (by omega)
    have cA : KA x → (tab X.sh [(51, h)] []).iso 51 [.int .i64 x.a, .int .i64 ((k : Nat) : Int)] = some (.int .i64 (shft (tgt x) k)) := fun g => by
      have e := shA g k
      have b := vld_tv vx e.1
      rw [e.2.1]
      exact e51 x.a k (by rw [show tv x.k x.a x.b = x.a from e.2.1] at b; exact b)
    have cB : KB x → (tab X.sh [(51, h)] []).iso 51 [.int .i64 x.b, .int .i64 ((k : Nat) : Int)] = some (.int .i64 (shft (tgt x) k)) := fun g => by
      have e := shB g k
      have b := vld_tv vx e.1
      rw [e.2.1]
      exact e51 x.b k (by rw [show tv x.k x.a x.b = x.b from e.2.1] at b; exact b)
    refine round_ok env.mixed (tab_orc hT tn') (by kernel_rfl) (r37a h l i k x (shft (tgt x) k)) ?_
    simp only [Holds, Pv.Next]
    refine ⟨fun _ => ⟨fun hk1 => ⟨⟨trivial, trivial, ⟨VW.int (wsucc (by omega)), VW.nils, VW.int rfl, VW.lst rfl rfl, trivial⟩, trivial⟩, ?_⟩, fun hk1 => ⟨fun hk2 => ⟨⟨trivial, trivial, ⟨VW.int (wsucc (by omega)), VW.nils, VW.int rfl, VW.lst rfl rfl, trivial⟩, trivial⟩, ?_⟩, fun hk2 => ?_⟩⟩, fun h => absurd (of_decide_eq_false h) (by rw [List.length_map]; omega)⟩
    · exact ih (i + 1) (by omega) ((rpk_skip (.inl (by have := beq_iff_eq.1 hk1; omega))).trans he)
    · exact ih (i + 1) (by omega) ((rpk_skip (.inr (by have := beq_iff_eq.1 hk2; rw [hwk] at this; omega))).trans he)
    · have hne : ¬ (i = k ∨ i = k + 1) := by
        have h1 := beq_eq_false_iff_ne.1 hk1
        have h2 := beq_eq_false_iff_ne.1 hk2
        rw [hwk] at h2
        omega
      have nx := lp37b l k hv hn hk h hT e51 r (i + 1) (by omega)
      have e1 := rpk_next (k := k) hne hx
      have hfin : ¬ rpk l k l.length = [] := by
        have := rpk_ne (l := l) (k := k) (i := i + 1) (by rw [e1]; simp) r
        rw [show i + 1 + r = l.length by omega] at this
        exact this
      rw [if_neg hfin]
      rw [e1, he, List.nil_append] at nx
      have nA : KA x → LoopOk Tryd.prog X.G 0 (lpB Tryd.f37 3) (stB l k (i + 1) [⟨x.k, shft (tgt x) k, x.b, x.c, x.d⟩]) (.exit 0) (enB (rpk l k l.length)) := fun g => by rw [← (shA g k).2.2]; exact nx
      have nB : KB x → LoopOk Tryd.prog X.G 0 (lpB Tryd.f37 3) (stB l k (i + 1) [⟨x.k, x.a, shft (tgt x) k, x.c, x.d⟩]) (.exit 0) (enB (rpk l k l.length)) := fun g => by rw [← (shB g k).2.2]; exact nx
      have nN : ¬ KA x ∧ ¬ KB x → LoopOk Tryd.prog X.G 0 (lpB Tryd.f37 3) (stB l k (i + 1) [x]) (.exit 0) (enB (rpk l k l.length)) := fun g => by rw [shN g k] at nx; exact nx
      exact ⟨congrArg (Option.map fun v => (v, _)) px, ⟨fun g22 => ⟨pcallv_iso rfl rfl (cA (iskA22 g22)), app0 ⟨x.k, shft (tgt x) k, x.b, x.c, x.d⟩, ⟨trivial, trivial, ⟨VW.int (wsucc (by omega)), VW.sl rfl rfl rfl rfl, VW.int rfl, VW.lst rfl rfl, trivial⟩, ⟨BW.flat rfl (fun c hc => nb_c1 (x := ⟨x.k, shft (tgt x) k, x.b, x.c, x.d⟩) hc), trivial⟩⟩, nA (iskA22 g22)⟩, fun n22 => ⟨fun g25 => ⟨pcallv_iso rfl rfl (cA (iskA25 g25)), app0 ⟨x.k, shft (tgt x) k, x.b, x.c, x.d⟩, ⟨trivial, trivial, ⟨VW.int (wsucc (by omega)), VW.sl rfl rfl rfl rfl, VW.int rfl, VW.lst rfl rfl, trivial⟩, ⟨BW.flat rfl (fun c hc => nb_c1 (x := ⟨x.k, shft (tgt x) k, x.b, x.c, x.d⟩) hc), trivial⟩⟩, nA (iskA25 g25)⟩, fun n25 => ⟨fun g30 => ⟨pcallv_iso rfl rfl (cA (iskA30 g30)), app0 ⟨x.k, shft (tgt x) k, x.b, x.c, x.d⟩, ⟨trivial, trivial, ⟨VW.int (wsucc (by omega)), VW.sl rfl rfl rfl rfl, VW.int rfl, VW.lst rfl rfl, trivial⟩, ⟨BW.flat rfl (fun c hc => nb_c1 (x := ⟨x.k, shft (tgt x) k, x.b, x.c, x.d⟩) hc), trivial⟩⟩, nA (iskA30 g30)⟩, fun n30 => ⟨fun g31 => ⟨pcallv_iso rfl rfl (cA (iskA31 g31)), app0 ⟨x.k, shft (tgt x) k, x.b, x.c, x.d⟩, ⟨trivial, trivial, ⟨VW.int (wsucc (by omega)), VW.sl rfl rfl rfl rfl, VW.int rfl, VW.lst rfl rfl, trivial⟩, ⟨BW.flat rfl (fun c hc => nb_c1 (x := ⟨x.k, shft (tgt x) k, x.b, x.c, x.d⟩) hc), trivial⟩⟩, nA (iskA31 g31)⟩, fun n31 => ⟨fun g32 => ⟨pcallv_iso rfl rfl (cA (iskA32 g32)), app0 ⟨x.k, shft (tgt x) k, x.b, x.c, x.d⟩, ⟨trivial, trivial, ⟨VW.int (wsucc (by omega)), VW.sl rfl rfl rfl rfl, VW.int rfl, VW.lst rfl rfl, trivial⟩, ⟨BW.flat rfl (fun c hc => nb_c1 (x := ⟨x.k, shft (tgt x) k, x.b, x.c, x.d⟩) hc), trivial⟩⟩, nA (iskA32 g32)⟩, fun n32 => ⟨fun g33 => ⟨pcallv_iso rfl rfl (cA (iskA33 g33)), app0 ⟨x.k, shft (tgt x) k, x.b, x.c, x.d⟩, ⟨trivial, trivial, ⟨VW.int (wsucc (by omega)), VW.sl rfl rfl rfl rfl, VW.int rfl, VW.lst rfl rfl, trivial⟩, ⟨BW.flat rfl (fun c hc => nb_c1 (x := ⟨x.k, shft (tgt x) k, x.b, x.c, x.d⟩) hc), trivial⟩⟩, nA (iskA33 g33)⟩, fun n33 => ⟨fun g23 => ⟨pcallv_iso rfl rfl (cB (iskB23 g23)), app0 ⟨x.k, x.a, shft (tgt x) k, x.c, x.d⟩, ⟨trivial, trivial, ⟨VW.int (wsucc (by omega)), VW.sl rfl rfl rfl rfl, VW.int rfl, VW.lst rfl rfl, trivial⟩, ⟨BW.flat rfl (fun c hc => nb_c1 (x := ⟨x.k, x.a, shft (tgt x) k, x.c, x.d⟩) hc), trivial⟩⟩, nB (iskB23 g23)⟩, fun n23 => ⟨fun g24 => ⟨pcallv_iso rfl rfl (cB (iskB24 g24)), app0 ⟨x.k, x.a, shft (tgt x) k, x.c, x.d⟩, ⟨trivial, trivial, ⟨VW.int (wsucc (by omega)), VW.sl rfl rfl rfl rfl, VW.int rfl, VW.lst rfl rfl, trivial⟩, ⟨BW.flat rfl (fun c hc => nb_c1 (x := ⟨x.k, x.a, shft (tgt x) k, x.c, x.d⟩) hc), trivial⟩⟩, nB (iskB24 g24)⟩, fun n24 => ⟨fun g26 => ⟨pcallv_iso rfl rfl (cB (iskB26 g26)), app0 ⟨x.k, x.a, shft (tgt x) k, x.c, x.d⟩, ⟨trivial, trivial, ⟨VW.int (wsucc (by omega)), VW.sl rfl rfl rfl rfl, VW.int rfl, VW.lst rfl rfl, trivial⟩, ⟨BW.flat rfl (fun c hc => nb_c1 (x := ⟨x.k, x.a, shft (tgt x) k, x.c, x.d⟩) hc), trivial⟩⟩, nB (iskB26 g26)⟩, fun n26 => ⟨fun g27 => ⟨pcallv_iso rfl rfl (cB (iskB27 g27)), app0 ⟨x.k, x.a, shft (tgt x) k, x.c, x.d⟩, ⟨trivial, trivial, ⟨VW.int (wsucc (by omega)), VW.sl rfl rfl rfl rfl, VW.int rfl, VW.lst rfl rfl, trivial⟩, ⟨BW.flat rfl (fun c hc => nb_c1 (x := ⟨x.k, x.a, shft (tgt x) k, x.c, x.d⟩) hc), trivial⟩⟩, nB (iskB27 g27)⟩, fun n27 => ⟨app0 x, ⟨trivial, trivial, ⟨VW.int (wsucc (by omega)), VW.sl rfl rfl rfl rfl, VW.int rfl, VW.lst rfl rfl, trivial⟩, ⟨BW.flat rfl (fun c hc => nb_c1 (x := x) hc), trivial⟩⟩, nN (notk n22 n25 n30 n31 n32 n33 n23 n24 n26 n27)⟩⟩⟩⟩⟩⟩⟩⟩⟩⟩⟩⟩
theorem ok37 (l : List Ins) (k : Nat) (hv : ∀ x ∈ l, vld x = true) (hn : l.length ≤ 1000) (hk : k ≤ 1000) : Ok Tryd.prog X.G 37 [code l, .int .i64 ((k : Nat) : Int)] (code (rmv l k)) := by
  obtain ⟨h, e51, o51⟩ := ent_ex (fun p : Int × Nat => 0 ≤ p.1 ∧ p.1 ≤ 65535) (fun p : Int × Nat => ([PV.int .i64 p.1, .int .i64 ((p.2 : Nat) : Int)], PV.int .i64 (shft p.1 p.2))) (fun a b h => by
    simp only [List.cons.injEq, and_true, PV.int.injEq, true_and, Int.natCast_inj] at h
    rw [h.1, h.2])
  have hT : TabOk Tryd.prog X.G [(51, h)] := tk (fun l r e => by obtain ⟨a, ha, rfl, rfl⟩ := o51 l r e; exact ok51 a.1 a.2 ha) tn
  have lp := lp37a l k hv hn hk h hT (fun t k ht => e51 (t, k) ht) l.length 0 (by omega) rfl
  by_cases hf : rpk l k l.length = []
  · rw [if_pos hf] at lp
    refine wok env (tab_orc hT tn') fd37 (t37a h l k) ?_
    simp only [Holds]
    refine ⟨⟨trivial, trivial, ⟨VW.int rfl, VW.nils, VW.int rfl, VW.lst rfl rfl, trivial⟩, trivial⟩, lp, ⟨_, _, rfl, ?_⟩⟩
    rw [← rpk_all, hf]
    exact Sub.nils 5
  · rw [if_neg hf] at lp
    refine wok env (tab_orc hT tn') fd37 (t37b h l (rpk l k l.length) k) ?_
    simp only [Holds]
    refine ⟨⟨trivial, trivial, ⟨VW.int rfl, VW.nils, VW.int rfl, VW.lst rfl rfl, trivial⟩, trivial⟩, lp, ⟨_, _, fz_many (d := 4) rfl, ?_⟩⟩
    rw [← rpk_all]
    exact Sub.refl _
end Go.Proofs.YtkfmhmkeikhdbaaDoor
