/- Contract: the partner of an instruction. -/
import Derived.Test.YtfhojpnofmlkdaaDoorRows
import Derived.WalkKit
import Derived.ProofKit
import Derived.OpenShut
import Derived.Below
import Derived.Lib.Hide
import Derived.Outline
import Derived.WalkLawsBesides
import Derived.WalkSpells
import Derived.WalkSmall
import Derived.IntWalk
import Derived.Deep.QuietTactic
import Derived.BigQuiet
import Derived.Deep.RegionHeld3
import Derived.StillTailTactics
import Derived.Handy
import Derived.Deep.Cut
import Derived.Deep.OwnRows
import Derived.Deep.RegionWith
import Derived.Test.YtfhojpnofmlkdaaDoorLink
import Derived.Laws.StructEq
import Derived.Deep.RegionWith
namespace Go.Proofs.YtfhojpnofmlkdaaDoor
open Go.ChangeShapes Go.WideShapes Go.ChangeAt Go.RowKit
set_option linter.unusedSimpArgs false
set_option linter.unusedVariables false
set_option maxRecDepth 100000
set_option maxRecDepth 100000
/-- a valid instruction with a role has its target in the code's greatest range -/
theorem vld_tgt (x : Ins) (h : vld x = true) (hr : rol x.k ≠ 0) : 0 ≤ tgt x ∧ tgt x ≤ 65535 := by
  obtain ⟨k, a, b, c, d⟩ := x
  by_cases hk : k ≠ 22 ∧ k ≠ 23 ∧ k ≠ 24 ∧ k ≠ 25 ∧ k ≠ 26 ∧ k ≠ 27 ∧ k ≠ 32 ∧ k ≠ 33
  · exact absurd (rol_other k (by omega)) hr
  · rcases (by omega : k = 22 ∨ k = 23 ∨ k = 24 ∨ k = 25 ∨ k = 26 ∨ k = 27 ∨ k = 32 ∨ k = 33) with rfl | rfl | rfl | rfl | rfl | rfl | rfl | rfl
    · have h1 : chk (opS 22) a 0 = true := by
        unfold vld validB at h
        simp only [Bool.and_eq_true] at h
        exact h.2.1
      have h2 : clsOk 116 a = true := h1
      have h3 : clsOk 116 a = decide (0 ≤ a ∧ a ≤ 65535) := rfl
      have h4 : tgt ⟨22, a, b, c, d⟩ = a := rfl
      rw [h4]
      rw [h3] at h2
      simpa using h2
    · have h1 : chk (opS 23) b 1 = true := by
        unfold vld validB at h
        simp only [Bool.and_eq_true] at h
        exact h.2.2.1
      have h2 : clsOk 116 b = true := h1
      have h3 : clsOk 116 b = decide (0 ≤ b ∧ b ≤ 65535) := rfl
      have h4 : tgt ⟨23, a, b, c, d⟩ = b := rfl
      rw [h4]
      rw [h3] at h2
      simpa using h2
    · have h1 : chk (opS 24) b 1 = true := by
        unfold vld validB at h
        simp only [Bool.and_eq_true] at h
        exact h.2.2.1
      have h2 : clsOk 116 b = true := h1
      have h3 : clsOk 116 b = decide (0 ≤ b ∧ b ≤ 65535) := rfl
      have h4 : tgt ⟨24, a, b, c, d⟩ = b := rfl
      rw [h4]
      rw [h3] at h2
      simpa using h2
    · have h1 : chk (opS 25) a 0 = true := by
        unfold vld validB at h
        simp only [Bool.and_eq_true] at h
        exact h.2.1
      have h2 : clsOk 116 a = true := h1
      have h3 : clsOk 116 a = decide (0 ≤ a ∧ a ≤ 65535) := rfl
      have h4 : tgt ⟨25, a, b, c, d⟩ = a := rfl
      rw [h4]
      rw [h3] at h2
      simpa using h2
    · have h1 : chk (opS 26) b 1 = true := by
        unfold vld validB at h
        simp only [Bool.and_eq_true] at h
        exact h.2.2.1
      have h2 : clsOk 116 b = true := h1
      have h3 : clsOk 116 b = decide (0 ≤ b ∧ b ≤ 65535) := rfl
      have h4 : tgt ⟨26, a, b, c, d⟩ = b := rfl
      rw [h4]
      rw [h3] at h2
      simpa using h2
    · have h1 : chk (opS 27) b 1 = true := by
        unfold vld validB at h
        simp only [Bool.and_eq_true] at h
        exact h.2.2.1
      have h2 : clsOk 116 b = true := h1
      have h3 : clsOk 116 b = decide (0 ≤ b ∧ b ≤ 65535) := rfl
      have h4 : tgt ⟨27, a, b, c, d⟩ = b := rfl
      rw [h4]
      rw [h3] at h2
      simpa using h2
    · have h1 : chk (opS 32) a 0 = true := by
        unfold vld validB at h
        simp only [Bool.and_eq_true] at h
        exact h.2.1
      have h2 : clsOk 116 a = true := h1
      have h3 : clsOk 116 a = decide (0 ≤ a ∧ a ≤ 65535) := rfl
      have h4 : tgt ⟨32, a, b, c, d⟩ = a := rfl
      rw [h4]
      rw [h3] at h2
      simpa using h2
    · have h1 : chk (opS 33) a 0 = true := by
        unfold vld validB at h
        simp only [Bool.and_eq_true] at h
        exact h.2.1
      have h2 : clsOk 116 a = true := h1
      have h3 : clsOk 116 a = decide (0 ≤ a ∧ a ≤ 65535) := rfl
      have h4 : tgt ⟨33, a, b, c, d⟩ = a := rfl
      rw [h4]
      rw [h3] at h2
      simpa using h2
def part (L : List Ins) (i : Int) : Option Int :=
  if i < 0 then none else
  match L[i.toNat]? with
  | none => none
  | some x => if lkR x i = 0 ∨ (L.length : Int) ≤ lkT x i then none else
    match L[(lkT x i).toNat]? with
    | none => none
    | some y => if lkF y (lkT x i) = lkT x i ∧ lkT y (lkT x i) = lkF x i ∧ lkR y (lkT x i) = opp (lkR x i) then some (lkT x i) else none
theorem lk_to {x : Ins} {i : Int} (h : lkR x i ≠ 0) : 0 ≤ lkT x i ∧ lkT x i ≤ 65535 ∧ lkF x i = i := by
  by_cases hc : rol x.k = 0 ∨ vld x = false ∨ (rol x.k = 3 ∧ tgt x < i) ∨ (rol x.k = 4 ∧ i < tgt x)
  · exact absurd (by unfold lkR; rw [if_pos hc]) h
  · have h1 : lkT x i = tgt x := by unfold lkT; rw [if_neg hc]
    have h2 : lkF x i = i := by unfold lkF; rw [if_neg hc]
    have h3 := vld_tgt x (by cases hv : vld x; exact absurd (.inr (.inl hv)) hc; rfl) (fun e => hc (.inl e))
    rw [h1]
    exact ⟨h3.1, h3.2, h2⟩
theorem lkR_cases (x : Ins) (i : Int) : 0 ≤ lkR x i ∧ lkR x i ≤ 4 := by
  unfold lkR
  split
  · omega
  · rcases rol_cases x.k with h | h | h | h | h <;> rw [h] <;> omega
theorem Tryd.struct113 : Tryd.prog.underlying 113 = some (.struct (Tryd.prog.fieldsOf 113)) := by kernel_rfl
theorem Tryd.held113 : Tryd.prog.stoodInHeld 113 = false := by kernel_rfl
theorem neq_link (f t r f' t' r' : Int) (w : World) : Sem.run Tryd.prog (binOp .neq 113 (.agg #[.int .i64 f, .int .i64 t, .int .u8 r]) (.agg #[.int .i64 f', .int .i64 t', .int .u8 r'])) w = .ok (.bool (!(decide (f = f' ∧ t = t' ∧ r = r')))) w := by
  have u3 := Tryd.underlying3
  have u5 := Tryd.underlying5
  have a3 := Tryd.isAgg3
  have z3 := Tryd.sizeOf3
  have a5 := Tryd.isAgg5
  have z5 := Tryd.sizeOf5
  rw [run_neq_struct, show (10000 : Nat) = 9999 + 1 from rfl, run_equalIn_agg w 9999 113 _ _ Tryd.struct113 Tryd.held113]
  simp only [Program.fieldsOf, Tryd.underlying113]
  by_cases h1 : f = f'
  · subst h1
    by_cases h2 : t = t'
    · subst h2
      by_cases h3 : r = r'
      · subst h3
        go_simp
      · have e3 : (r == r') = false := by simpa using h3
        have e4 : (decide (f = f ∧ t = t ∧ r = r')) = false := by simp [h3]
        rw [e4]
        go_simp
    · have e3 : (t == t') = false := by simpa using h2
      have e4 : (decide (f = f ∧ t = t' ∧ r = r')) = false := by simp [h2]
      rw [e4]
      go_simp
  · have e3 : (f == f') = false := by simpa using h1
    have e4 : (decide (f = f' ∧ t = t' ∧ r = r')) = false := by simp [h1]
    rw [e4]
    go_simp
theorem part_none_lt (L : List Ins) (i : Int) (h : i < 0) : part L i = none := by unfold part; rw [if_pos h]
theorem part_none_ge (L : List Ins) (i : Int) (h : (L.length : Int) ≤ i) : part L i = none := by
  unfold part
  rw [if_neg (by omega), List.getElem?_eq_none (by omega)]
theorem part_at {L : List Ins} {i : Nat} {x : Ins} (h : L[i]? = some x) : part L i = if lkR x i = 0 ∨ (L.length : Int) ≤ lkT x i then none else
    match L[(lkT x i).toNat]? with
    | none => none
    | some y => if lkF y (lkT x i) = lkT x i ∧ lkT y (lkT x i) = lkF x i ∧ lkR y (lkT x i) = opp (lkR x i) then some (lkT x i) else none := by
  unfold part
  rw [if_neg (by omega), Int.toNat_natCast, h]
theorem ret_pair {a a' : Int} {b b' : Bool} (h1 : a = a') (h2 : b = b') : Ending.returned (.tuple #[.int .i64 a, .bool b]) = .returned (.tuple #[.int .i64 a', .bool b']) := by rw [h1, h2]
set_option maxRecDepth 100000 in
set_option maxHeartbeats 4000000 in
theorem partner_any (a : Option Addr) (n cap : Nat) (l : List Ins) (m s i : Int) (w : World) (h : SliceC w a l) (hn : l.length = n) (hw : WF l) (hL : Laid w) :
    Calls Tryd.prog 72 #[.agg #[.slice a n cap, .int .i64 m, .int .i64 s], .int .i64 i] w fun e w' => e = .returned (.tuple #[.int .i64 ((part l i).getD 0), .bool (part l i).isSome]) ∧ Below w.heap.size w w' := by
  have HA : Hid (Below w.heap.size w (w.alloc (.cells #[.slice a n cap, .int .i64 m, .int .i64 s] 24))) := Lib.hid ((Below.refl _ _).alloc (Nat.le_refl _) _)
  by_cases h1 : i < 0
  · rw [part_none_lt l i h1]
    have hd : decide (i < 0) = true := by simpa using h1
    go_enter Tryd.func72, Tryd.ntmps72
    go_wp2
    go_ret2
    exact ⟨rfl, HA.out⟩
  have hd : decide (i < 0) = false := by simpa using h1
  by_cases h2 : (n : Int) ≤ i
  · rw [part_none_ge l i (by omega)]
    have hd2 : decide ((n : Int) ≤ i) = true := by simpa using h2
    go_enter Tryd.func72, Tryd.ntmps72
    go_wp2
    go_ret2
    exact ⟨rfl, HA.out⟩
  have hd2 : decide ((n : Int) ≤ i) = false := by simpa using h2
  obtain ⟨j, rfl⟩ : ∃ j : Nat, i = j := ⟨i.toNat, by omega⟩
  obtain ⟨x, hx⟩ : ∃ x, l[j]? = some x := ⟨_, List.getElem?_eq_getElem (show j < l.length by omega)⟩
  have hP := part_at hx
  have HX := Lib.hid hx
  have hk := hw.at hx
  have HS := Lib.hid h
  have HL := Lib.hid hL
  have hr4 := lkR_cases x j
  obtain ⟨f, hf⟩ : ∃ f, lkF x j = f := ⟨_, rfl⟩
  obtain ⟨t, ht⟩ : ∃ t, lkT x j = t := ⟨_, rfl⟩
  obtain ⟨r, hr⟩ : ∃ r, lkR x j = r := ⟨_, rfl⟩
  have hto := lk_to (x := x) (i := (j : Int))
  rw [hf, ht, hr] at hto
  rw [hf, ht, hr] at hP
  rw [hr] at hr4
  have HF := Lib.hid hf
  have HT := Lib.hid ht
  have HR := Lib.hid hr
  clear hf ht hr hx h hL
  by_cases hr0 : r = 0
  · rw [if_pos (.inl hr0)] at hP
    rw [hP]
    have hb0 : (r == 0) = true := by simpa using hr0
    clear hP hto
    go_enter Tryd.func72, Tryd.ntmps72
    go_wp2_with (go_at_call 81; refine (linkOf_any a n cap l j x _ (HS.out.below HA.out) hn HX.out hk (HL.out.below HA.out)).mono ?_; rw [HF.out, HT.out, HR.out]; rintro e w2 ⟨rfl, hb⟩; have HB := Lib.hid (below_on HA.out hb); have d0 := cell_on (b := w.heap.size) (o := 0) (v := .slice a n cap) hb (by go_simp); have hlt2 := World.block_lt_of_cell? w2 _ d0; clear hb)
    go_quiet (fail)
    go_wp2
    go_ret2
    exact ⟨rfl, below_drewN (HB.out.alloc HB.out.size _) _⟩
  obtain ⟨ht0, ht1, hff⟩ := hto hr0
  subst hff
  obtain ⟨q, rfl⟩ : ∃ q : Nat, t = q := ⟨t.toNat, by omega⟩
  have hb0 : (r == 0) = false := by simpa using hr0
  by_cases hq : n ≤ q
  · rw [if_pos (.inr (by omega))] at hP
    rw [hP]
    have hd3 : (n : Int) ≤ (q : Int) := by omega
    have hd4 : decide ((n : Int) ≤ (q : Int)) = true := by simpa using hd3
    clear hP hto
    go_enter Tryd.func72, Tryd.ntmps72
    go_wp2_with (go_at_call 81; refine (linkOf_any a n cap l j x _ (HS.out.below HA.out) hn HX.out hk (HL.out.below HA.out)).mono ?_; rw [HF.out, HT.out, HR.out]; rintro e w2 ⟨rfl, hb⟩; have HB := Lib.hid (below_on HA.out hb); have d0 := cell_on (b := w.heap.size) (o := 0) (v := .slice a n cap) hb (by go_simp); have hlt2 := World.block_lt_of_cell? w2 _ d0; clear hb)
    go_quiet (fail)
    go_wp2
    go_ret2
    exact ⟨rfl, below_drewN (HB.out.alloc HB.out.size _) _⟩
  obtain ⟨y, hy⟩ : ∃ y, l[q]? = some y := ⟨_, List.getElem?_eq_getElem (show q < l.length by omega)⟩
  rw [if_neg (by rintro (h | h); exact hr0 h; omega), Int.toNat_natCast, hy] at hP
  simp only at hP
  have HY := Lib.hid hy
  have hky := hw.at hy
  have hr5 := lkR_cases y q
  obtain ⟨f2, hf2⟩ : ∃ f, lkF y q = f := ⟨_, rfl⟩
  obtain ⟨t2, ht2⟩ : ∃ f, lkT y q = f := ⟨_, rfl⟩
  obtain ⟨r2, hr2⟩ : ∃ f, lkR y q = f := ⟨_, rfl⟩
  rw [hf2, ht2, hr2] at hP
  have HF2 := Lib.hid hf2
  have HT2 := Lib.hid ht2
  have HR2 := Lib.hid hr2
  have hne := neq_link f2 t2 r2 (q : Int) (j : Int) (opp r)
  obtain ⟨v, hv⟩ : ∃ v, decide (f2 = (q : Int) ∧ t2 = (j : Int) ∧ r2 = opp r) = v := ⟨_, rfl⟩
  rw [hv] at hne
  have hP2 : part l j = if v = true then some (q : Int) else none := by rw [hP, ← hv]; simp
  have HP := Lib.hid hP2
  have hdq : decide ((n : Int) ≤ (q : Int)) = false := by simp; omega
  have hdq2 : decide (n ≤ q) = false := by simp; omega
  have hdq3 : ¬ (n : Int) ≤ (q : Int) := by omega
  have hdq4 : (q : Int) < (n : Int) := by omega
  clear hP hP2 hv hto hf2 ht2 hr2 hr5 hy hq
  go_enter Tryd.func72, Tryd.ntmps72
  go_wp2_with (go_at_call 81; refine (linkOf_any a n cap l j x _ (HS.out.below HA.out) hn HX.out hk (HL.out.below HA.out)).mono ?_; rw [HF.out, HT.out, HR.out]; rintro e w2 ⟨rfl, hb⟩; have HB := Lib.hid (below_on HA.out hb); have d0 := cell_on (b := w.heap.size) (o := 0) (v := .slice a n cap) hb (by go_simp); have hlt2 := World.block_lt_of_cell? w2 _ d0; clear hb)
  have g0 : (w2.alloc (.cells #[.int .i64 (j : Int), .int .i64 (q : Int), .int .u8 r] 113)).cell? ⟨w.heap.size, 0, none⟩ = some (.slice a n cap) := by go_simp
  have g1 : (w2.alloc (.cells #[.int .i64 (j : Int), .int .i64 (q : Int), .int .u8 r] 113)).cell? ⟨w2.heap.size, 0, none⟩ = some (.int .i64 (j : Int)) := by go_simp
  have g2 : (w2.alloc (.cells #[.int .i64 (j : Int), .int .i64 (q : Int), .int .u8 r] 113)).cell? ⟨w2.heap.size, 1, none⟩ = some (.int .i64 (q : Int)) := by go_simp
  have g3 : (w2.alloc (.cells #[.int .i64 (j : Int), .int .i64 (q : Int), .int .u8 r] 113)).cell? ⟨w2.heap.size, 2, none⟩ = some (.int .u8 r) := by go_simp
  have HB5 : Below w.heap.size w (w2.alloc (.cells #[.int .i64 (j : Int), .int .i64 (q : Int), .int .u8 r] 113)) := HB.out.alloc HB.out.size _
  generalize w2.alloc (.cells #[.int .i64 (j : Int), .int .i64 (q : Int), .int .u8 r] 113) = w3 at *
  generalize w2.heap.size = g at *
  clear d0 hlt2 HB HA w2
  go_region_held3 (fun w' => w'.cell? ⟨w.heap.size, 0, none⟩ = some (.slice a n cap) ∧ w'.cell? ⟨g, 0, none⟩ = some (.int .i64 (j : Int)) ∧ w'.cell? ⟨g, 1, none⟩ = some (.int .i64 (q : Int)) ∧ w'.cell? ⟨g, 2, none⟩ = some (.int .u8 r) ∧ Below w.heap.size w w')
    (first | exact ⟨g0, g1, g2, g3, HB5.drew⟩ | exact ⟨k0, k1, k2, k3, HD⟩ | exact ⟨m0, m1, m2, m3, HE⟩ | assumption)
    (first
      | (go_at_call 81; refine (linkOf_any a n cap l q y _ (HS.out.below HB5.drew) hn HY.out hky (HL.out.below HB5.drew)).mono ?_; rw [HF2.out, HT2.out, HR2.out]; rintro e w4 ⟨rfl, hg⟩; have k0 := cell_on hg g0; have k1 := cell_on hg g1; have k2 := cell_on hg g2; have k3 := cell_on hg g3; have HD := below_on HB5.drew hg)
      | (go_at_call 82; refine (mirror_any _ _ _ _ hr4).mono ?_; rintro e w5 ⟨rfl, hg⟩; have m0 := cell_on hg k0; have m1 := cell_on hg k1; have m2 := cell_on hg k2; have m3 := cell_on hg k3; have HE := below_on HD hg))
  all_goals
    cases v
    · go_wp2
      go_ret2
      exact ⟨ret_pair (by rw [HP.out]; rfl) (by rw [HP.out]; rfl), HE⟩
    · go_wp2
      go_ret2
      exact ⟨ret_pair (by rw [HP.out]; rfl) (by rw [HP.out]; rfl), HE⟩
end Go.Proofs.YtfhojpnofmlkdaaDoor
