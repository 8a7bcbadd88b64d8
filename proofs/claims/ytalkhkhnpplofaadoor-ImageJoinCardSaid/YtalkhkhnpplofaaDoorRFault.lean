/- Contracts: the reference's fault. -/
import Derived.Test.YtalkhkhnpplofaaDoorRows
import Derived.WalkKit
import Derived.ProofKit
import Derived.OpenShut
import Derived.Below
import Derived.Lib.Hide
import Derived.Outline
import Derived.WalkLawsBesides
import Derived.WalkSpells
import Derived.WalkSmall
import Derived.IntWalk
import Derived.Deep.QuietTactic
import Derived.BigQuiet
import Derived.Deep.RegionHeld3
import Derived.StillTailTactics
import Derived.Handy
import Derived.Deep.Cut
import Derived.Deep.OwnRows
import Derived.Deep.RegionWith
import Derived.Test.YtalkhkhnpplofaaDoorRegion
namespace Go.Proofs.YtalkhkhnpplofaaDoor
open Go.ChangeShapes Go.WideShapes Go.ChangeAt Go.RowKit
set_option linter.unusedSimpArgs false
set_option linter.unusedVariables false

theorem vld_call {x : Ins} (h : vld x = true) (hk : x.k = 30 ∨ x.k = 31) : 0 ≤ x.a := by
  obtain ⟨k, a, b, c, d⟩ := x
  have key : chk (opS k) a 0 = true := by
    unfold vld validB at h
    simp only [Bool.and_eq_true] at h
    exact h.2.1
  rcases hk with rfl | rfl
  · have h3 : chk (opS 30) a 0 = decide (0 ≤ a ∧ a ≤ 65535) := rfl
    rw [h3] at key
    exact (of_decide_eq_true key).1
  · have h3 : chk (opS 31) a 0 = decide (0 ≤ a ∧ a ≤ 65535) := rfl
    rw [h3] at key
    exact (of_decide_eq_true key).1
theorem rp_of_none {l : List Ins} {i : Int} (h : part l i = none) : rp l i = -1 := by unfold rp; rw [h]; rfl
theorem rp_of_some {l : List Ins} {i t : Int} (h : part l i = some t) : rp l i = t := by unfold rp; rw [h]; rfl
theorem rp_isSome (l : List Ins) (i : Int) : (part l i).isSome = decide (0 ≤ rp l i) := by
  cases hp : part l i with
  | none => rw [rp_of_none hp]; rfl
  | some t =>
    rw [rp_of_some hp]
    by_cases hi : i < 0
    · rw [part_none_lt l i hi] at hp; cases hp
    · obtain ⟨j, rfl⟩ : ∃ j : Nat, i = j := ⟨i.toNat, by omega⟩
      obtain ⟨q, rfl, _⟩ := (part_iff l j t).1 hp
      simp

set_option maxRecDepth 100000 in
set_option maxHeartbeats 1600000 in
theorem rfault_any (a : Option Addr) (n cap : Nat) (l : List Ins) (i : Nat) (x : Ins) (w : World) (h : SliceC w a l) (hn : l.length = n) (hw : WF l) (hi : l[i]? = some x) (hm : n ≤ 300) :
    Calls Tryd.prog 33 #[.slice a n cap, .int .i64 i] w fun e w' => e = .returned (.int .i64 (flt l (regs l) i)) ∧ Below w.heap.size w w' := by
  have HA : Hid (Below w.heap.size w (w.alloc (.cells #[.int .u8 x.k, .int .i64 x.a, .int .i64 x.b, .int .i64 x.c, .int .i64 x.d] 39))) := Lib.hid ((Below.refl _ _).alloc (Nat.le_refl _) _)
  have hin : i < n := hn ▸ lt_len hi
  have hdl : (i : Int) < (n : Int) := by omega
  have hk := hw.at hi
  have HS := Lib.hid h
  have HN := Lib.hid hn
  have HI := Lib.hid hi
  have hF := flt_eq hi
  obtain ⟨b, o, rfl, hbl, c0, c1, c2, c3, c4⟩ := h.at hi
  have k0 : (w.alloc (.cells #[.int .u8 x.k, .int .i64 x.a, .int .i64 x.b, .int .i64 x.c, .int .i64 x.d] 39)).cell? ⟨w.heap.size, 0, none⟩ = some (.int .u8 x.k) := by go_simp
  have k1 : (w.alloc (.cells #[.int .u8 x.k, .int .i64 x.a, .int .i64 x.b, .int .i64 x.c, .int .i64 x.d] 39)).cell? ⟨w.heap.size, 1, none⟩ = some (.int .i64 x.a) := by go_simp
  have k2 : (w.alloc (.cells #[.int .u8 x.k, .int .i64 x.a, .int .i64 x.b, .int .i64 x.c, .int .i64 x.d] 39)).cell? ⟨w.heap.size, 2, none⟩ = some (.int .i64 x.b) := by go_simp
  have k3 : (w.alloc (.cells #[.int .u8 x.k, .int .i64 x.a, .int .i64 x.b, .int .i64 x.c, .int .i64 x.d] 39)).cell? ⟨w.heap.size, 3, none⟩ = some (.int .i64 x.c) := by go_simp
  have k4 : (w.alloc (.cells #[.int .u8 x.k, .int .i64 x.a, .int .i64 x.b, .int .i64 x.c, .int .i64 x.d] 39)).cell? ⟨w.heap.size, 4, none⟩ = some (.int .i64 x.d) := by go_simp
  clear h hn hi
  cases hv : validB x.k x.a x.b x.c x.d
  · rw [show vld x = false from hv, if_pos rfl] at hF
    rw [hF]
    have HV := Lib.hid hv
    clear hF hv
    go_enter Tryd.func33, Tryd.ntmps33
    go_wp2_with (first | (go_at_call 36; refine (refValid_any x.k x.a x.b x.c x.d _ hk).mono ?_; rintro e w1 ⟨rfl, hb⟩; rw [HV.out]; have HB := Lib.hid (below_on HA.out hb); replace k0 := cell_on hb k0; replace k1 := cell_on hb k1; replace k2 := cell_on hb k2; replace k3 := cell_on hb k3; replace k4 := cell_on hb k4; clear hb))
    go_ret
    exact ⟨rfl, HB.out⟩
  rw [show vld x = true from hv, if_neg (by decide)] at hF
  have HV := Lib.hid hv
  obtain ⟨r, hr⟩ : ∃ r, rol x.k = r := ⟨_, rfl⟩
  have hrc := rol_cases x.k
  rw [hr] at hrc
  rw [hr] at hF
  have g1 := rol1 x.k
  have g2 := rol2 x.k
  have g3 := rol3 x.k
  have g4 := rol4 x.k
  rw [hr] at g1 g2 g3 g4
  clear hr
  rcases hrc with rfl | rfl | rfl | rfl | rfl
  · rw [if_pos rfl] at hF
    have e1 : jmp x.k = false := by cases hj : jmp x.k; rfl; exact absurd (g1.2 hj) (by decide)
    have e2 : lnd x.k = false := by cases hj : lnd x.k; rfl; exact absurd (g2.2 hj) (by decide)
    have b3 : (x.k == 32) = false := by rw [beq_eq_false_iff_ne]; intro e; exact absurd (g3.2 e) (by decide)
    have b4 : (x.k == 33) = false := by rw [beq_eq_false_iff_ne]; intro e; exact absurd (g4.2 e) (by decide)
    clear g1 g2 g3 g4
    by_cases hc : x.k = 30 ∨ x.k = 31
    · rw [if_pos hc] at hF
      have h0 := vld_call hv hc
      rw [hF]
      clear hF hv
      have hcf : cfl l x.a = if 0 ≤ rp l x.a ∧ (l[x.a.toNat]?).map (·.k) = some 32 then 0 else 23 := by unfold cfl; rw [rp_isSome]; simp only [decide_eq_true_eq]
      have hb0 : ∀ (P : Prop), ((x.k == 30) = true → P) → ((x.k == 30) = false → (x.k == 31) = true → P) → P := fun P p1 p2 => by
        rcases hc with hc | hc
        · exact p1 (by rw [beq_iff_eq]; exact hc)
        · exact p2 (by rw [beq_eq_false_iff_ne]; omega) (by rw [beq_iff_eq]; exact hc)
      clear hc
      obtain ⟨j, hxj⟩ : ∃ j : Nat, x.a = j := ⟨x.a.toNat, by omega⟩
      rw [hxj, Int.toNat_natCast] at hcf
      rw [hxj]
      have HXJ := Lib.hid hxj
      clear h0 hxj
      by_cases hjn : j < n
      · have hdj : decide ((n : Int) ≤ (j : Int)) = false := by simp; omega
        have hdj2 : (j : Int) < (n : Int) := by omega
        obtain ⟨y, hy⟩ : ∃ y, l[j]? = some y := ⟨_, List.getElem?_eq_getElem (by have := HN.out; omega)⟩
        rw [hy] at hcf
        obtain ⟨b', o', e', _, d0, _, _, _, _⟩ := (HS.out.below HA.out).at hy
        cases e'
        clear hy
        by_cases hyk : y.k = 32
        · have by1 : (y.k != 32) = false := by simpa using hyk
          by_cases hq : 0 ≤ rp l j
          · have hq' : decide (rp l j < 0) = false := by simpa using hq
            rw [if_pos ⟨hq, by simp [hyk]⟩] at hcf
            rw [hcf]
            clear hcf hyk hq
            refine hb0 _ (fun q0 => ?_) (fun q0 q1 => ?_)
            all_goals clear hb0
            · go_enter Tryd.func33, Tryd.ntmps33
              go_wp2_with (first | (go_at_call 36; refine (refValid_any x.k x.a x.b x.c x.d _ hk).mono ?_; rintro e w1 ⟨rfl, hb⟩; rw [HV.out]; have HB := Lib.hid (below_on HA.out hb); replace k0 := cell_on hb k0; replace k1 := (cell_on hb k1).trans (congrArg (fun z => some (Value.int .i64 z)) HXJ.out); replace k2 := cell_on hb k2; replace k3 := cell_on hb k3; replace k4 := cell_on hb k4; replace d0 := cell_on hb d0; clear hb) | (go_at_call 38; refine (rjump_any _ _).mono ?_; rintro e w1 ⟨rfl, rfl⟩) | (go_at_call 39; refine (rland_any _ _).mono ?_; rintro e w1 ⟨rfl, rfl⟩) | (go_at_call 18; refine (rpartner_any _ n cap l _ _ (HS.out.below HB.out) HN.out hw).mono ?_; rintro e w1 ⟨rfl, hb⟩; replace HB := Lib.hid (below_on HB.out hb); replace k0 := cell_on hb k0; replace k1 := cell_on hb k1; replace k2 := cell_on hb k2; replace k3 := cell_on hb k3; replace k4 := cell_on hb k4; replace d0 := cell_on hb d0; clear hb))
              go_ret
              exact ⟨rfl, HB.out⟩
            · go_enter Tryd.func33, Tryd.ntmps33
              go_wp2_with (first | (go_at_call 36; refine (refValid_any x.k x.a x.b x.c x.d _ hk).mono ?_; rintro e w1 ⟨rfl, hb⟩; rw [HV.out]; have HB := Lib.hid (below_on HA.out hb); replace k0 := cell_on hb k0; replace k1 := (cell_on hb k1).trans (congrArg (fun z => some (Value.int .i64 z)) HXJ.out); replace k2 := cell_on hb k2; replace k3 := cell_on hb k3; replace k4 := cell_on hb k4; replace d0 := cell_on hb d0; clear hb) | (go_at_call 38; refine (rjump_any _ _).mono ?_; rintro e w1 ⟨rfl, rfl⟩) | (go_at_call 39; refine (rland_any _ _).mono ?_; rintro e w1 ⟨rfl, rfl⟩) | (go_at_call 18; refine (rpartner_any _ n cap l _ _ (HS.out.below HB.out) HN.out hw).mono ?_; rintro e w1 ⟨rfl, hb⟩; replace HB := Lib.hid (below_on HB.out hb); replace k0 := cell_on hb k0; replace k1 := cell_on hb k1; replace k2 := cell_on hb k2; replace k3 := cell_on hb k3; replace k4 := cell_on hb k4; replace d0 := cell_on hb d0; clear hb))
              go_ret
              exact ⟨rfl, HB.out⟩
          · have hq' : decide (rp l j < 0) = true := by simpa using hq
            rw [if_neg (fun e => hq e.1)] at hcf
            rw [hcf]
            clear hcf hyk hq
            refine hb0 _ (fun q0 => ?_) (fun q0 q1 => ?_)
            all_goals clear hb0
            · go_enter Tryd.func33, Tryd.ntmps33
              go_wp2_with (first | (go_at_call 36; refine (refValid_any x.k x.a x.b x.c x.d _ hk).mono ?_; rintro e w1 ⟨rfl, hb⟩; rw [HV.out]; have HB := Lib.hid (below_on HA.out hb); replace k0 := cell_on hb k0; replace k1 := (cell_on hb k1).trans (congrArg (fun z => some (Value.int .i64 z)) HXJ.out); replace k2 := cell_on hb k2; replace k3 := cell_on hb k3; replace k4 := cell_on hb k4; replace d0 := cell_on hb d0; clear hb) | (go_at_call 38; refine (rjump_any _ _).mono ?_; rintro e w1 ⟨rfl, rfl⟩) | (go_at_call 39; refine (rland_any _ _).mono ?_; rintro e w1 ⟨rfl, rfl⟩) | (go_at_call 18; refine (rpartner_any _ n cap l _ _ (HS.out.below HB.out) HN.out hw).mono ?_; rintro e w1 ⟨rfl, hb⟩; replace HB := Lib.hid (below_on HB.out hb); replace k0 := cell_on hb k0; replace k1 := cell_on hb k1; replace k2 := cell_on hb k2; replace k3 := cell_on hb k3; replace k4 := cell_on hb k4; replace d0 := cell_on hb d0; clear hb))
              go_ret
              exact ⟨rfl, HB.out⟩
            · go_enter Tryd.func33, Tryd.ntmps33
              go_wp2_with (first | (go_at_call 36; refine (refValid_any x.k x.a x.b x.c x.d _ hk).mono ?_; rintro e w1 ⟨rfl, hb⟩; rw [HV.out]; have HB := Lib.hid (below_on HA.out hb); replace k0 := cell_on hb k0; replace k1 := (cell_on hb k1).trans (congrArg (fun z => some (Value.int .i64 z)) HXJ.out); replace k2 := cell_on hb k2; replace k3 := cell_on hb k3; replace k4 := cell_on hb k4; replace d0 := cell_on hb d0; clear hb) | (go_at_call 38; refine (rjump_any _ _).mono ?_; rintro e w1 ⟨rfl, rfl⟩) | (go_at_call 39; refine (rland_any _ _).mono ?_; rintro e w1 ⟨rfl, rfl⟩) | (go_at_call 18; refine (rpartner_any _ n cap l _ _ (HS.out.below HB.out) HN.out hw).mono ?_; rintro e w1 ⟨rfl, hb⟩; replace HB := Lib.hid (below_on HB.out hb); replace k0 := cell_on hb k0; replace k1 := cell_on hb k1; replace k2 := cell_on hb k2; replace k3 := cell_on hb k3; replace k4 := cell_on hb k4; replace d0 := cell_on hb d0; clear hb))
              go_ret
              exact ⟨rfl, HB.out⟩
        · have by1 : (y.k != 32) = true := by simpa using hyk
          rw [if_neg (fun e => hyk (by simpa using e.2))] at hcf
          rw [hcf]
          clear hcf hyk
          refine hb0 _ (fun q0 => ?_) (fun q0 q1 => ?_)
          all_goals clear hb0
          · go_enter Tryd.func33, Tryd.ntmps33
            go_wp2_with (first | (go_at_call 36; refine (refValid_any x.k x.a x.b x.c x.d _ hk).mono ?_; rintro e w1 ⟨rfl, hb⟩; rw [HV.out]; have HB := Lib.hid (below_on HA.out hb); replace k0 := cell_on hb k0; replace k1 := (cell_on hb k1).trans (congrArg (fun z => some (Value.int .i64 z)) HXJ.out); replace k2 := cell_on hb k2; replace k3 := cell_on hb k3; replace k4 := cell_on hb k4; replace d0 := cell_on hb d0; clear hb) | (go_at_call 38; refine (rjump_any _ _).mono ?_; rintro e w1 ⟨rfl, rfl⟩) | (go_at_call 39; refine (rland_any _ _).mono ?_; rintro e w1 ⟨rfl, rfl⟩) | (go_at_call 18; refine (rpartner_any _ n cap l _ _ (HS.out.below HB.out) HN.out hw).mono ?_; rintro e w1 ⟨rfl, hb⟩; replace HB := Lib.hid (below_on HB.out hb); replace k0 := cell_on hb k0; replace k1 := cell_on hb k1; replace k2 := cell_on hb k2; replace k3 := cell_on hb k3; replace k4 := cell_on hb k4; replace d0 := cell_on hb d0; clear hb))
            go_ret
            exact ⟨rfl, HB.out⟩
          · go_enter Tryd.func33, Tryd.ntmps33
            go_wp2_with (first | (go_at_call 36; refine (refValid_any x.k x.a x.b x.c x.d _ hk).mono ?_; rintro e w1 ⟨rfl, hb⟩; rw [HV.out]; have HB := Lib.hid (below_on HA.out hb); replace k0 := cell_on hb k0; replace k1 := (cell_on hb k1).trans (congrArg (fun z => some (Value.int .i64 z)) HXJ.out); replace k2 := cell_on hb k2; replace k3 := cell_on hb k3; replace k4 := cell_on hb k4; replace d0 := cell_on hb d0; clear hb) | (go_at_call 38; refine (rjump_any _ _).mono ?_; rintro e w1 ⟨rfl, rfl⟩) | (go_at_call 39; refine (rland_any _ _).mono ?_; rintro e w1 ⟨rfl, rfl⟩) | (go_at_call 18; refine (rpartner_any _ n cap l _ _ (HS.out.below HB.out) HN.out hw).mono ?_; rintro e w1 ⟨rfl, hb⟩; replace HB := Lib.hid (below_on HB.out hb); replace k0 := cell_on hb k0; replace k1 := cell_on hb k1; replace k2 := cell_on hb k2; replace k3 := cell_on hb k3; replace k4 := cell_on hb k4; replace d0 := cell_on hb d0; clear hb))
            go_ret
            exact ⟨rfl, HB.out⟩
      · have hdj : decide ((n : Int) ≤ (j : Int)) = true := by simp; omega
        rw [if_neg (fun e => by have h1 := rp_of_none (part_none_ge l j (by have := HN.out; omega)); have h2 := e.1; omega)] at hcf
        rw [hcf]
        clear hcf
        refine hb0 _ (fun q0 => ?_) (fun q0 q1 => ?_)
        all_goals clear hb0
        · go_enter Tryd.func33, Tryd.ntmps33
          go_wp2_with (first | (go_at_call 36; refine (refValid_any x.k x.a x.b x.c x.d _ hk).mono ?_; rintro e w1 ⟨rfl, hb⟩; rw [HV.out]; have HB := Lib.hid (below_on HA.out hb); replace k0 := cell_on hb k0; replace k1 := (cell_on hb k1).trans (congrArg (fun z => some (Value.int .i64 z)) HXJ.out); replace k2 := cell_on hb k2; replace k3 := cell_on hb k3; replace k4 := cell_on hb k4; clear hb) | (go_at_call 38; refine (rjump_any _ _).mono ?_; rintro e w1 ⟨rfl, rfl⟩) | (go_at_call 39; refine (rland_any _ _).mono ?_; rintro e w1 ⟨rfl, rfl⟩) | (go_at_call 18; refine (rpartner_any _ n cap l _ _ (HS.out.below HB.out) HN.out hw).mono ?_; rintro e w1 ⟨rfl, hb⟩; replace HB := Lib.hid (below_on HB.out hb); replace k0 := cell_on hb k0; replace k1 := cell_on hb k1; replace k2 := cell_on hb k2; replace k3 := cell_on hb k3; replace k4 := cell_on hb k4; clear hb))
          go_ret
          exact ⟨rfl, HB.out⟩
        · go_enter Tryd.func33, Tryd.ntmps33
          go_wp2_with (first | (go_at_call 36; refine (refValid_any x.k x.a x.b x.c x.d _ hk).mono ?_; rintro e w1 ⟨rfl, hb⟩; rw [HV.out]; have HB := Lib.hid (below_on HA.out hb); replace k0 := cell_on hb k0; replace k1 := (cell_on hb k1).trans (congrArg (fun z => some (Value.int .i64 z)) HXJ.out); replace k2 := cell_on hb k2; replace k3 := cell_on hb k3; replace k4 := cell_on hb k4; clear hb) | (go_at_call 38; refine (rjump_any _ _).mono ?_; rintro e w1 ⟨rfl, rfl⟩) | (go_at_call 39; refine (rland_any _ _).mono ?_; rintro e w1 ⟨rfl, rfl⟩) | (go_at_call 18; refine (rpartner_any _ n cap l _ _ (HS.out.below HB.out) HN.out hw).mono ?_; rintro e w1 ⟨rfl, hb⟩; replace HB := Lib.hid (below_on HB.out hb); replace k0 := cell_on hb k0; replace k1 := cell_on hb k1; replace k2 := cell_on hb k2; replace k3 := cell_on hb k3; replace k4 := cell_on hb k4; clear hb))
          go_ret
          exact ⟨rfl, HB.out⟩
    · have b30 : (x.k == 30) = false := by rw [beq_eq_false_iff_ne]; intro e; exact hc (.inl e)
      have b31 : (x.k == 31) = false := by rw [beq_eq_false_iff_ne]; intro e; exact hc (.inr e)
      rw [if_neg hc] at hF
      rw [hF]
      clear hF hv hc
      go_enter Tryd.func33, Tryd.ntmps33
      go_wp2_with (first | (go_at_call 36; refine (refValid_any x.k x.a x.b x.c x.d _ hk).mono ?_; rintro e w1 ⟨rfl, hb⟩; rw [HV.out]; have HB := Lib.hid (below_on HA.out hb); replace k0 := cell_on hb k0; replace k1 := cell_on hb k1; replace k2 := cell_on hb k2; replace k3 := cell_on hb k3; replace k4 := cell_on hb k4; clear hb) | (go_at_call 38; refine (rjump_any _ _).mono ?_; rintro e w1 ⟨rfl, rfl⟩) | (go_at_call 39; refine (rland_any _ _).mono ?_; rintro e w1 ⟨rfl, rfl⟩) | (go_at_call 18; refine (rpartner_any _ n cap l _ _ (HS.out.below HB.out) HN.out hw).mono ?_; rintro e w1 ⟨rfl, hb⟩; replace HB := Lib.hid (below_on HB.out hb); replace k0 := cell_on hb k0; replace k1 := cell_on hb k1; replace k2 := cell_on hb k2; replace k3 := cell_on hb k3; replace k4 := cell_on hb k4; clear hb))
      go_ret
      exact ⟨rfl, HB.out⟩
  · have e1 : jmp x.k = true := g1.1 rfl
    have hks : x.k = 22 ∨ x.k = 23 ∨ x.k = 24 := by simpa [jmp] using e1
    have e2 : lnd x.k = false := by simp [lnd]; omega
    have b30 : (x.k == 30) = false := by rw [beq_eq_false_iff_ne]; omega
    have b31 : (x.k == 31) = false := by rw [beq_eq_false_iff_ne]; omega
    have b32 : (x.k == 32) = false := by rw [beq_eq_false_iff_ne]; omega
    have b33 : (x.k == 33) = false := by rw [beq_eq_false_iff_ne]; omega
    clear g1 g2 g3 g4 hks
    rw [if_neg (by decide)] at hF
    cases hp : part l i with
    | none =>
      have HP := Lib.hid (rp_of_none hp)
      rw [hp] at hF
      simp only at hF
      rw [hF]
      clear hF hv hp
      go_enter Tryd.func33, Tryd.ntmps33
      go_wp2_with (first | (go_at_call 36; refine (refValid_any x.k x.a x.b x.c x.d _ hk).mono ?_; rintro e w1 ⟨rfl, hb⟩; rw [HV.out]; have HB := Lib.hid (below_on HA.out hb); replace k0 := cell_on hb k0; replace k1 := cell_on hb k1; replace k2 := cell_on hb k2; replace k3 := cell_on hb k3; replace k4 := cell_on hb k4; clear hb) | (go_at_call 18; refine (rpartner_any _ n cap l i _ (HS.out.below HB.out) HN.out hw).mono ?_; rintro e w1 ⟨rfl, hb⟩; rw [HP.out]; replace HB := Lib.hid (below_on HB.out hb); replace k0 := cell_on hb k0; replace k1 := cell_on hb k1; replace k2 := cell_on hb k2; replace k3 := cell_on hb k3; replace k4 := cell_on hb k4; clear hb) | (go_at_call 38; refine (rjump_any _ _).mono ?_; rintro e w1 ⟨rfl, rfl⟩) | (go_at_call 39; refine (rland_any _ _).mono ?_; rintro e w1 ⟨rfl, rfl⟩))
      go_ret
      exact ⟨rfl, HB.out⟩
    | some t =>
      obtain ⟨j, rfl, hj⟩ := (part_iff l i t).1 hp
      have HP := Lib.hid (rp_of_some hp)
      have hjn : j < n := HN.out ▸ hj.lt.2
      rw [hp] at hF
      simp only at hF
      rw [if_neg (by decide), if_pos (by decide), Int.toNat_natCast] at hF
      by_cases hq : rgn l i (-1) = rgn l j (-1)
      · have hq' : (rgn l i (-1) != rgn l j (-1)) = false := by simpa using hq
        rw [if_neg (by simpa using hq)] at hF
        rw [hF]
        clear hF hv hp hj hq
        go_enter Tryd.func33, Tryd.ntmps33
        go_wp2_with (first | (go_at_call 36; refine (refValid_any x.k x.a x.b x.c x.d _ hk).mono ?_; rintro e w1 ⟨rfl, hb⟩; rw [HV.out]; have HB := Lib.hid (below_on HA.out hb); replace k0 := cell_on hb k0; replace k1 := cell_on hb k1; replace k2 := cell_on hb k2; replace k3 := cell_on hb k3; replace k4 := cell_on hb k4; clear hb) | (go_at_call 18; refine (rpartner_any _ n cap l i _ (HS.out.below HB.out) HN.out hw).mono ?_; rintro e w1 ⟨rfl, hb⟩; rw [HP.out]; replace HB := Lib.hid (below_on HB.out hb); replace k0 := cell_on hb k0; replace k1 := cell_on hb k1; replace k2 := cell_on hb k2; replace k3 := cell_on hb k3; replace k4 := cell_on hb k4; clear hb) | (go_at_call 38; refine (rjump_any _ _).mono ?_; rintro e w1 ⟨rfl, rfl⟩) | (go_at_call 39; refine (rland_any _ _).mono ?_; rintro e w1 ⟨rfl, rfl⟩) | (go_at_call 47; refine (region_any _ n cap l _ _ _ (HS.out.below HB.out) HN.out hw (by omega) hm).mono ?_; rintro e w1 ⟨rfl, hb⟩; replace HB := Lib.hid (below_on HB.out hb); replace k0 := cell_on hb k0; replace k1 := cell_on hb k1; replace k2 := cell_on hb k2; replace k3 := cell_on hb k3; replace k4 := cell_on hb k4; clear hb))
        go_ret
        exact ⟨rfl, HB.out⟩
      · have hq' : (rgn l i (-1) != rgn l j (-1)) = true := by simpa using hq
        rw [if_pos hq] at hF
        rw [hF]
        clear hF hv hp hj hq
        go_enter Tryd.func33, Tryd.ntmps33
        go_wp2_with (first | (go_at_call 36; refine (refValid_any x.k x.a x.b x.c x.d _ hk).mono ?_; rintro e w1 ⟨rfl, hb⟩; rw [HV.out]; have HB := Lib.hid (below_on HA.out hb); replace k0 := cell_on hb k0; replace k1 := cell_on hb k1; replace k2 := cell_on hb k2; replace k3 := cell_on hb k3; replace k4 := cell_on hb k4; clear hb) | (go_at_call 18; refine (rpartner_any _ n cap l i _ (HS.out.below HB.out) HN.out hw).mono ?_; rintro e w1 ⟨rfl, hb⟩; rw [HP.out]; replace HB := Lib.hid (below_on HB.out hb); replace k0 := cell_on hb k0; replace k1 := cell_on hb k1; replace k2 := cell_on hb k2; replace k3 := cell_on hb k3; replace k4 := cell_on hb k4; clear hb) | (go_at_call 38; refine (rjump_any _ _).mono ?_; rintro e w1 ⟨rfl, rfl⟩) | (go_at_call 39; refine (rland_any _ _).mono ?_; rintro e w1 ⟨rfl, rfl⟩) | (go_at_call 47; refine (region_any _ n cap l _ _ _ (HS.out.below HB.out) HN.out hw (by omega) hm).mono ?_; rintro e w1 ⟨rfl, hb⟩; replace HB := Lib.hid (below_on HB.out hb); replace k0 := cell_on hb k0; replace k1 := cell_on hb k1; replace k2 := cell_on hb k2; replace k3 := cell_on hb k3; replace k4 := cell_on hb k4; clear hb))
        go_ret
        exact ⟨rfl, HB.out⟩
  · have e2 : lnd x.k = true := g2.1 rfl
    have hks : x.k = 25 ∨ x.k = 26 ∨ x.k = 27 := by simpa [lnd] using e2
    have e1 : jmp x.k = false := by simp [jmp]; omega
    have b30 : (x.k == 30) = false := by rw [beq_eq_false_iff_ne]; omega
    have b31 : (x.k == 31) = false := by rw [beq_eq_false_iff_ne]; omega
    have b32 : (x.k == 32) = false := by rw [beq_eq_false_iff_ne]; omega
    have b33 : (x.k == 33) = false := by rw [beq_eq_false_iff_ne]; omega
    clear g1 g2 g3 g4 hks
    rw [if_neg (by decide)] at hF
    cases hp : part l i with
    | none =>
      have HP := Lib.hid (rp_of_none hp)
      rw [hp] at hF
      simp only at hF
      rw [hF]
      clear hF hv hp
      go_enter Tryd.func33, Tryd.ntmps33
      go_wp2_with (first | (go_at_call 36; refine (refValid_any x.k x.a x.b x.c x.d _ hk).mono ?_; rintro e w1 ⟨rfl, hb⟩; rw [HV.out]; have HB := Lib.hid (below_on HA.out hb); replace k0 := cell_on hb k0; replace k1 := cell_on hb k1; replace k2 := cell_on hb k2; replace k3 := cell_on hb k3; replace k4 := cell_on hb k4; clear hb) | (go_at_call 18; refine (rpartner_any _ n cap l i _ (HS.out.below HB.out) HN.out hw).mono ?_; rintro e w1 ⟨rfl, hb⟩; rw [HP.out]; replace HB := Lib.hid (below_on HB.out hb); replace k0 := cell_on hb k0; replace k1 := cell_on hb k1; replace k2 := cell_on hb k2; replace k3 := cell_on hb k3; replace k4 := cell_on hb k4; clear hb) | (go_at_call 38; refine (rjump_any _ _).mono ?_; rintro e w1 ⟨rfl, rfl⟩) | (go_at_call 39; refine (rland_any _ _).mono ?_; rintro e w1 ⟨rfl, rfl⟩))
      go_ret
      exact ⟨rfl, HB.out⟩
    | some t =>
      obtain ⟨j, rfl, hj⟩ := (part_iff l i t).1 hp
      have HP := Lib.hid (rp_of_some hp)
      have hjn : j < n := HN.out ▸ hj.lt.2
      rw [hp] at hF
      simp only at hF
      rw [if_neg (by decide), if_pos (by decide), Int.toNat_natCast] at hF
      by_cases hq : rgn l i (-1) = rgn l j (-1)
      · have hq' : (rgn l i (-1) != rgn l j (-1)) = false := by simpa using hq
        rw [if_neg (by simpa using hq)] at hF
        rw [hF]
        clear hF hv hp hj hq
        go_enter Tryd.func33, Tryd.ntmps33
        go_wp2_with (first | (go_at_call 36; refine (refValid_any x.k x.a x.b x.c x.d _ hk).mono ?_; rintro e w1 ⟨rfl, hb⟩; rw [HV.out]; have HB := Lib.hid (below_on HA.out hb); replace k0 := cell_on hb k0; replace k1 := cell_on hb k1; replace k2 := cell_on hb k2; replace k3 := cell_on hb k3; replace k4 := cell_on hb k4; clear hb) | (go_at_call 18; refine (rpartner_any _ n cap l i _ (HS.out.below HB.out) HN.out hw).mono ?_; rintro e w1 ⟨rfl, hb⟩; rw [HP.out]; replace HB := Lib.hid (below_on HB.out hb); replace k0 := cell_on hb k0; replace k1 := cell_on hb k1; replace k2 := cell_on hb k2; replace k3 := cell_on hb k3; replace k4 := cell_on hb k4; clear hb) | (go_at_call 38; refine (rjump_any _ _).mono ?_; rintro e w1 ⟨rfl, rfl⟩) | (go_at_call 39; refine (rland_any _ _).mono ?_; rintro e w1 ⟨rfl, rfl⟩) | (go_at_call 47; refine (region_any _ n cap l _ _ _ (HS.out.below HB.out) HN.out hw (by omega) hm).mono ?_; rintro e w1 ⟨rfl, hb⟩; replace HB := Lib.hid (below_on HB.out hb); replace k0 := cell_on hb k0; replace k1 := cell_on hb k1; replace k2 := cell_on hb k2; replace k3 := cell_on hb k3; replace k4 := cell_on hb k4; clear hb))
        go_ret
        exact ⟨rfl, HB.out⟩
      · have hq' : (rgn l i (-1) != rgn l j (-1)) = true := by simpa using hq
        rw [if_pos hq] at hF
        rw [hF]
        clear hF hv hp hj hq
        go_enter Tryd.func33, Tryd.ntmps33
        go_wp2_with (first | (go_at_call 36; refine (refValid_any x.k x.a x.b x.c x.d _ hk).mono ?_; rintro e w1 ⟨rfl, hb⟩; rw [HV.out]; have HB := Lib.hid (below_on HA.out hb); replace k0 := cell_on hb k0; replace k1 := cell_on hb k1; replace k2 := cell_on hb k2; replace k3 := cell_on hb k3; replace k4 := cell_on hb k4; clear hb) | (go_at_call 18; refine (rpartner_any _ n cap l i _ (HS.out.below HB.out) HN.out hw).mono ?_; rintro e w1 ⟨rfl, hb⟩; rw [HP.out]; replace HB := Lib.hid (below_on HB.out hb); replace k0 := cell_on hb k0; replace k1 := cell_on hb k1; replace k2 := cell_on hb k2; replace k3 := cell_on hb k3; replace k4 := cell_on hb k4; clear hb) | (go_at_call 38; refine (rjump_any _ _).mono ?_; rintro e w1 ⟨rfl, rfl⟩) | (go_at_call 39; refine (rland_any _ _).mono ?_; rintro e w1 ⟨rfl, rfl⟩) | (go_at_call 47; refine (region_any _ n cap l _ _ _ (HS.out.below HB.out) HN.out hw (by omega) hm).mono ?_; rintro e w1 ⟨rfl, hb⟩; replace HB := Lib.hid (below_on HB.out hb); replace k0 := cell_on hb k0; replace k1 := cell_on hb k1; replace k2 := cell_on hb k2; replace k3 := cell_on hb k3; replace k4 := cell_on hb k4; clear hb))
        go_ret
        exact ⟨rfl, HB.out⟩
  · have hk2 : x.k = 32 := g3.1 rfl
    have e1 : jmp x.k = false := by cases hj : jmp x.k; rfl; exact absurd (g1.2 hj) (by decide)
    have e2 : lnd x.k = false := by cases hj : lnd x.k; rfl; exact absurd (g2.2 hj) (by decide)
    have b30 : (x.k == 30) = false := by rw [beq_eq_false_iff_ne]; omega
    have b31 : (x.k == 31) = false := by rw [beq_eq_false_iff_ne]; omega
    have b32 : (x.k == 32) = true := by rw [beq_iff_eq]; exact hk2
    have b33 : (x.k == 33) = false := by rw [beq_eq_false_iff_ne]; omega
    clear g1 g2 g3 g4 hk2
    rw [if_neg (by decide)] at hF
    cases hp : part l i with
    | none =>
      have HP := Lib.hid (rp_of_none hp)
      rw [hp] at hF
      simp only at hF
      rw [hF]
      clear hF hv hp
      go_enter Tryd.func33, Tryd.ntmps33
      go_wp2_with (first | (go_at_call 36; refine (refValid_any x.k x.a x.b x.c x.d _ hk).mono ?_; rintro e w1 ⟨rfl, hb⟩; rw [HV.out]; have HB := Lib.hid (below_on HA.out hb); replace k0 := cell_on hb k0; replace k1 := cell_on hb k1; replace k2 := cell_on hb k2; replace k3 := cell_on hb k3; replace k4 := cell_on hb k4; clear hb) | (go_at_call 18; refine (rpartner_any _ n cap l i _ (HS.out.below HB.out) HN.out hw).mono ?_; rintro e w1 ⟨rfl, hb⟩; rw [HP.out]; replace HB := Lib.hid (below_on HB.out hb); replace k0 := cell_on hb k0; replace k1 := cell_on hb k1; replace k2 := cell_on hb k2; replace k3 := cell_on hb k3; replace k4 := cell_on hb k4; clear hb) | (go_at_call 38; refine (rjump_any _ _).mono ?_; rintro e w1 ⟨rfl, rfl⟩) | (go_at_call 39; refine (rland_any _ _).mono ?_; rintro e w1 ⟨rfl, rfl⟩))
      go_ret
      exact ⟨rfl, HB.out⟩
    | some t =>
      obtain ⟨j, rfl, hj⟩ := (part_iff l i t).1 hp
      have HP := Lib.hid (rp_of_some hp)
      rw [hp] at hF
      simp only at hF
      rw [if_pos trivial] at hF
      by_cases hq : 0 ≤ rgn l i i
      · have hq' : decide (0 ≤ rgn l i i) = true := decide_eq_true hq
        rw [if_pos hq] at hF
        rw [hF]
        clear hF hv hp hj hq
        go_enter Tryd.func33, Tryd.ntmps33
        go_wp2_with (first | (go_at_call 36; refine (refValid_any x.k x.a x.b x.c x.d _ hk).mono ?_; rintro e w1 ⟨rfl, hb⟩; rw [HV.out]; have HB := Lib.hid (below_on HA.out hb); replace k0 := cell_on hb k0; replace k1 := cell_on hb k1; replace k2 := cell_on hb k2; replace k3 := cell_on hb k3; replace k4 := cell_on hb k4; clear hb) | (go_at_call 18; refine (rpartner_any _ n cap l i _ (HS.out.below HB.out) HN.out hw).mono ?_; rintro e w1 ⟨rfl, hb⟩; rw [HP.out]; replace HB := Lib.hid (below_on HB.out hb); replace k0 := cell_on hb k0; replace k1 := cell_on hb k1; replace k2 := cell_on hb k2; replace k3 := cell_on hb k3; replace k4 := cell_on hb k4; clear hb) | (go_at_call 38; refine (rjump_any _ _).mono ?_; rintro e w1 ⟨rfl, rfl⟩) | (go_at_call 39; refine (rland_any _ _).mono ?_; rintro e w1 ⟨rfl, rfl⟩) | (go_at_call 47; refine (region_any _ n cap l _ _ _ (HS.out.below HB.out) HN.out hw (by omega) hm).mono ?_; rintro e w1 ⟨rfl, hb⟩; replace HB := Lib.hid (below_on HB.out hb); replace k0 := cell_on hb k0; replace k1 := cell_on hb k1; replace k2 := cell_on hb k2; replace k3 := cell_on hb k3; replace k4 := cell_on hb k4; clear hb))
        go_ret
        exact ⟨rfl, HB.out⟩
      · have hq' : decide (0 ≤ rgn l i i) = false := decide_eq_false hq
        rw [if_neg hq] at hF
        rw [hF]
        clear hF hv hp hj hq
        go_enter Tryd.func33, Tryd.ntmps33
        go_wp2_with (first | (go_at_call 36; refine (refValid_any x.k x.a x.b x.c x.d _ hk).mono ?_; rintro e w1 ⟨rfl, hb⟩; rw [HV.out]; have HB := Lib.hid (below_on HA.out hb); replace k0 := cell_on hb k0; replace k1 := cell_on hb k1; replace k2 := cell_on hb k2; replace k3 := cell_on hb k3; replace k4 := cell_on hb k4; clear hb) | (go_at_call 18; refine (rpartner_any _ n cap l i _ (HS.out.below HB.out) HN.out hw).mono ?_; rintro e w1 ⟨rfl, hb⟩; rw [HP.out]; replace HB := Lib.hid (below_on HB.out hb); replace k0 := cell_on hb k0; replace k1 := cell_on hb k1; replace k2 := cell_on hb k2; replace k3 := cell_on hb k3; replace k4 := cell_on hb k4; clear hb) | (go_at_call 38; refine (rjump_any _ _).mono ?_; rintro e w1 ⟨rfl, rfl⟩) | (go_at_call 39; refine (rland_any _ _).mono ?_; rintro e w1 ⟨rfl, rfl⟩) | (go_at_call 47; refine (region_any _ n cap l _ _ _ (HS.out.below HB.out) HN.out hw (by omega) hm).mono ?_; rintro e w1 ⟨rfl, hb⟩; replace HB := Lib.hid (below_on HB.out hb); replace k0 := cell_on hb k0; replace k1 := cell_on hb k1; replace k2 := cell_on hb k2; replace k3 := cell_on hb k3; replace k4 := cell_on hb k4; clear hb))
        go_ret
        exact ⟨rfl, HB.out⟩
  · have hk2 : x.k = 33 := g4.1 rfl
    have e1 : jmp x.k = false := by cases hj : jmp x.k; rfl; exact absurd (g1.2 hj) (by decide)
    have e2 : lnd x.k = false := by cases hj : lnd x.k; rfl; exact absurd (g2.2 hj) (by decide)
    have b30 : (x.k == 30) = false := by rw [beq_eq_false_iff_ne]; omega
    have b31 : (x.k == 31) = false := by rw [beq_eq_false_iff_ne]; omega
    have b32 : (x.k == 32) = false := by rw [beq_eq_false_iff_ne]; omega
    have b33 : (x.k == 33) = true := by rw [beq_iff_eq]; exact hk2
    clear g1 g2 g3 g4 hk2
    rw [if_neg (by decide)] at hF
    cases hp : part l i with
    | none =>
      have HP := Lib.hid (rp_of_none hp)
      rw [hp] at hF
      simp only at hF
      rw [hF]
      clear hF hv hp
      go_enter Tryd.func33, Tryd.ntmps33
      go_wp2_with (first | (go_at_call 36; refine (refValid_any x.k x.a x.b x.c x.d _ hk).mono ?_; rintro e w1 ⟨rfl, hb⟩; rw [HV.out]; have HB := Lib.hid (below_on HA.out hb); replace k0 := cell_on hb k0; replace k1 := cell_on hb k1; replace k2 := cell_on hb k2; replace k3 := cell_on hb k3; replace k4 := cell_on hb k4; clear hb) | (go_at_call 18; refine (rpartner_any _ n cap l i _ (HS.out.below HB.out) HN.out hw).mono ?_; rintro e w1 ⟨rfl, hb⟩; rw [HP.out]; replace HB := Lib.hid (below_on HB.out hb); replace k0 := cell_on hb k0; replace k1 := cell_on hb k1; replace k2 := cell_on hb k2; replace k3 := cell_on hb k3; replace k4 := cell_on hb k4; clear hb) | (go_at_call 38; refine (rjump_any _ _).mono ?_; rintro e w1 ⟨rfl, rfl⟩) | (go_at_call 39; refine (rland_any _ _).mono ?_; rintro e w1 ⟨rfl, rfl⟩))
      go_ret
      exact ⟨rfl, HB.out⟩
    | some t =>
      obtain ⟨j, rfl, hj⟩ := (part_iff l i t).1 hp
      have HP := Lib.hid (rp_of_some hp)
      rw [hp] at hF
      simp only at hF
      rw [if_neg (by decide), if_neg (by decide)] at hF
      rw [hF]
      clear hF hv hp hj
      go_enter Tryd.func33, Tryd.ntmps33
      go_wp2_with (first | (go_at_call 36; refine (refValid_any x.k x.a x.b x.c x.d _ hk).mono ?_; rintro e w1 ⟨rfl, hb⟩; rw [HV.out]; have HB := Lib.hid (below_on HA.out hb); replace k0 := cell_on hb k0; replace k1 := cell_on hb k1; replace k2 := cell_on hb k2; replace k3 := cell_on hb k3; replace k4 := cell_on hb k4; clear hb) | (go_at_call 18; refine (rpartner_any _ n cap l i _ (HS.out.below HB.out) HN.out hw).mono ?_; rintro e w1 ⟨rfl, hb⟩; rw [HP.out]; replace HB := Lib.hid (below_on HB.out hb); replace k0 := cell_on hb k0; replace k1 := cell_on hb k1; replace k2 := cell_on hb k2; replace k3 := cell_on hb k3; replace k4 := cell_on hb k4; clear hb) | (go_at_call 38; refine (rjump_any _ _).mono ?_; rintro e w1 ⟨rfl, rfl⟩) | (go_at_call 39; refine (rland_any _ _).mono ?_; rintro e w1 ⟨rfl, rfl⟩))
      go_ret
      exact ⟨rfl, HB.out⟩
end Go.Proofs.YtalkhkhnpplofaaDoor
