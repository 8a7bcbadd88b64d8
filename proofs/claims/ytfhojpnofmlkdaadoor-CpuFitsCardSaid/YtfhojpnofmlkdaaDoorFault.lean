/- Contracts: faults of calls and of instructions. -/
import Derived.Test.YtfhojpnofmlkdaaDoorRows
import Derived.WalkKit
import Derived.ProofKit
import Derived.OpenShut
import Derived.Below
import Derived.Lib.Hide
import Derived.Outline
import Derived.WalkLawsBesides
import Derived.WalkSpells
import Derived.WalkSmall
import Derived.IntWalk
import Derived.Deep.QuietTactic
import Derived.BigQuiet
import Derived.Deep.RegionHeld3
import Derived.StillTailTactics
import Derived.Handy
import Derived.Deep.Cut
import Derived.Deep.OwnRows
import Derived.Deep.RegionWith
import Derived.Test.YtfhojpnofmlkdaaDoorPair
namespace Go.Proofs.YtfhojpnofmlkdaaDoor
open Go.ChangeShapes Go.WideShapes Go.ChangeAt Go.RowKit
set_option linter.unusedSimpArgs false
set_option linter.unusedVariables false
set_option maxRecDepth 100000
set_option maxRecDepth 100000
theorem ret_int {a b : Int} (h : a = b) : Ending.returned (.int .i64 a) = .returned (.int .i64 b) := by rw [h]
/-- the fault of a call of t -/
def cfl (l : List Ins) (t : Int) : Int := if (part l t).isSome = true ∧ (l[t.toNat]?).map (·.k) = some 32 then 0 else 23
theorem part_in {l : List Ins} {t : Int} (h : (part l t).isSome = true) : 0 ≤ t ∧ t < (l.length : Int) := by
  constructor
  · rcases Int.lt_or_le t 0 with h1 | h1
    · rw [part_none_lt l t h1] at h; cases h
    · exact h1
  · rcases Int.lt_or_le t (l.length : Int) with h1 | h1
    · exact h1
    · rw [part_none_ge l t h1] at h; cases h
set_option maxHeartbeats 2000000 in
theorem callFault_any (a : Option Addr) (n cap : Nat) (l : List Ins) (m s t : Int) (w : World) (h : SliceC w a l) (hn : l.length = n) (hw : WF l) (hL : Laid w) :
    Calls Tryd.prog 74 #[.agg #[.slice a n cap, .int .i64 m, .int .i64 s], .int .i64 t] w fun e w' => e = .returned (.int .i64 (cfl l t)) ∧ Below w.heap.size w w' := by
  have HA : Hid (Below w.heap.size w (w.alloc (.cells #[.slice a n cap, .int .i64 m, .int .i64 s] 24))) := Lib.hid ((Below.refl _ _).alloc (Nat.le_refl _) _)
  have HS := Lib.hid h
  have HL := Lib.hid hL
  cases hp : part l t with
  | none =>
    have hr : cfl l t = 23 := by unfold cfl; rw [hp, if_neg (by simp)]
    rw [hr]
    have HP := Lib.hid hp
    clear h hL hp hr
    go_enter Tryd.func74, Tryd.ntmps74
    go_wp2_with (go_at_call 72; refine (partner_any a n cap l m s t _ (HS.out.below HA.out) hn hw (HL.out.below HA.out)).mono ?_; rw [HP.out]; rintro e w2 ⟨rfl, hb⟩; have HB := Lib.hid (below_on HA.out hb); have d0 := cell_on (b := w.heap.size) (o := 0) (v := .slice a n cap) hb (by go_simp); have hlt2 := World.block_lt_of_cell? w2 _ d0; clear hb)
    go_ret
    exact ⟨rfl, HB.out⟩
  | some u =>
    have hin := part_in (l := l) (t := t) (by rw [hp]; rfl)
    obtain ⟨j, rfl⟩ : ∃ j : Nat, t = j := ⟨t.toNat, by omega⟩
    have hjn : (j : Int) < (n : Int) := by omega
    obtain ⟨x, hx⟩ : ∃ x, l[j]? = some x := ⟨_, List.getElem?_eq_getElem (show j < l.length by omega)⟩
    have HX := Lib.hid hx
    have HP := Lib.hid hp
    by_cases hk : x.k = 32
    · have hr : cfl l j = 0 := by unfold cfl; rw [hp, Int.toNat_natCast, hx, if_pos ⟨rfl, by simp [hk]⟩]
      rw [hr]
      have hb0 : (x.k != 32) = false := by simpa using hk
      clear h hL hp hr hx
      go_enter Tryd.func74, Tryd.ntmps74
      go_wp2_with (go_at_call 72; refine (partner_any a n cap l m s j _ (HS.out.below HA.out) hn hw (HL.out.below HA.out)).mono ?_; rw [HP.out]; rintro e w2 ⟨rfl, hb⟩; have HB := Lib.hid (below_on HA.out hb); have d0 := cell_on (b := w.heap.size) (o := 0) (v := .slice a n cap) hb (by go_simp); have hlt2 := World.block_lt_of_cell? w2 _ d0; obtain ⟨b', o', rfl, _, e0, e1, e2, e3, e4⟩ := (HS.out.below HB.out).at HX.out; clear hb)
      go_ret
      exact ⟨rfl, HB.out⟩
    · have hr : cfl l j = 23 := by unfold cfl; rw [hp, Int.toNat_natCast, hx, if_neg (by simp [hk])]
      rw [hr]
      have hb0 : (x.k != 32) = true := by simpa using hk
      clear h hL hp hr hx
      go_enter Tryd.func74, Tryd.ntmps74
      go_wp2_with (go_at_call 72; refine (partner_any a n cap l m s j _ (HS.out.below HA.out) hn hw (HL.out.below HA.out)).mono ?_; rw [HP.out]; rintro e w2 ⟨rfl, hb⟩; have HB := Lib.hid (below_on HA.out hb); have d0 := cell_on (b := w.heap.size) (o := 0) (v := .slice a n cap) hb (by go_simp); have hlt2 := World.block_lt_of_cell? w2 _ d0; obtain ⟨b', o', rfl, _, e0, e1, e2, e3, e4⟩ := (HS.out.below HB.out).at HX.out; clear hb)
      go_ret
      exact ⟨rfl, HB.out⟩
/-- a slice of pairs of numbers -/
def SliceR (w : World) (a : Option Addr) (l : List (Int × Int)) : Prop := l ≠ [] → ∃ b o, a = some ⟨b, o, none⟩ ∧ b < w.heap.size ∧ ∀ (i : Nat) (x : Int × Int), l[i]? = some x → w.cell? ⟨b, o + i * 2, none⟩ = some (.int .i64 x.1) ∧ w.cell? ⟨b, o + i * 2 + 1, none⟩ = some (.int .i64 x.2)
theorem SliceR.below {w w' : World} {a : Option Addr} {l : List (Int × Int)} (h : SliceR w a l) (hb : Below w.heap.size w w') : SliceR w' a l := fun hl => by
  obtain ⟨b, o, rfl, h1, h2⟩ := h hl
  exact ⟨b, o, rfl, Nat.lt_of_lt_of_le h1 hb.size, fun i x hi => ⟨(hb.cell (p := ⟨b, o + i * 2, none⟩) h1).trans (h2 i x hi).1, (hb.cell (p := ⟨b, o + i * 2 + 1, none⟩) h1).trans (h2 i x hi).2⟩⟩
theorem SliceR.at {w : World} {a : Option Addr} {l : List (Int × Int)} (h : SliceR w a l) {i : Nat} {x : Int × Int} (hi : l[i]? = some x) : ∃ b o, a = some ⟨b, o, none⟩ ∧ b < w.heap.size ∧ w.cell? ⟨b, o + i * 2, none⟩ = some (.int .i64 x.1) ∧ w.cell? ⟨b, o + i * 2 + 1, none⟩ = some (.int .i64 x.2) := by
  obtain ⟨b, o, e, h1, h2⟩ := h (fun e => by subst e; simp at hi)
  exact ⟨b, o, e, h1, (h2 i x hi).1, (h2 i x hi).2⟩
def own (R : List (Int × Int)) (i : Int) : Int := (R.getD i.toNat (0, 0)).1
def outer (R : List (Int × Int)) (i : Int) : Int := (R.getD i.toNat (0, 0)).2
/-- the first fault of the instruction i, where the regions are R -/
def flt (l : List Ins) (R : List (Int × Int)) (i : Nat) : Int :=
  match l[i]? with
  | none => 0
  | some x =>
    if vld x = false then 3
    else if rol x.k = 0 then (if x.k = 30 ∨ x.k = 31 then cfl l x.a else 0)
    else match part l i with
      | none => 23
      | some t => if rol x.k = 3 then (if 0 ≤ outer R i then 20 else 0)
        else if rol x.k = 1 ∨ rol x.k = 2 then (if own R i ≠ own R t then 20 else 0) else 0
set_option maxRecDepth 100000 in
set_option maxHeartbeats 4000000 in
theorem fault_any (a ar : Option Addr) (n cap nr capr : Nat) (l : List Ins) (R : List (Int × Int)) (m s : Int) (i : Nat) (x : Ins) (w : World) (h : SliceC w a l) (hn : l.length = n) (hw : WF l) (hL : Laid w) (hsr : SliceR w ar R) (hR : R.length = nr) (hnr : nr = n) (hi : l[i]? = some x) :
    Calls Tryd.prog 60 #[.agg #[.slice a n cap, .int .i64 m, .int .i64 s], .slice ar nr capr, .int .i64 i] w fun e w' => e = .returned (.int .i64 (flt l R i)) ∧ Below w.heap.size w w' := by
  subst hnr
  have HA2 : Hid (Below w.heap.size w ((w.alloc (.cells #[.slice a nr cap, .int .i64 m, .int .i64 s] 24)).alloc (.cells #[.int .u8 x.k, .int .i64 x.a, .int .i64 x.b, .int .i64 x.c, .int .i64 x.d] 47))) := Lib.hid (((Below.refl _ _).alloc (Nat.le_refl _) _).alloc (by simp) _)
  have hin : i < nr := hn ▸ lt_len hi
  have hdl : (i : Int) < (nr : Int) := by omega
  have hk := hw.at hi
  have HS := Lib.hid h
  have HL := Lib.hid hL
  have HSR := Lib.hid hsr
  have HI := Lib.hid hi
  obtain ⟨ri, hri⟩ : ∃ y, R[i]? = some y := ⟨_, List.getElem?_eq_getElem (show i < R.length by omega)⟩
  have HRI := Lib.hid hri
  have ho : own R i = ri.1 := by unfold own; rw [Int.toNat_natCast, List.getD_eq_getElem?_getD, hri]; rfl
  have hu : outer R i = ri.2 := by unfold outer; rw [Int.toNat_natCast, List.getD_eq_getElem?_getD, hri]; rfl
  obtain ⟨b, o, rfl, hbl, c0, c1, c2, c3, c4⟩ := h.at hi
  have i0 : ((w.alloc (.cells #[.slice (some ⟨b, o, none⟩) nr cap, .int .i64 m, .int .i64 s] 24)).alloc (.cells #[.int .u8 x.k, .int .i64 x.a, .int .i64 x.b, .int .i64 x.c, .int .i64 x.d] 47)).cell? ⟨w.heap.size, 0, none⟩ = some (.slice (some ⟨b, o, none⟩) nr cap) := by go_simp
  have i1 : ((w.alloc (.cells #[.slice (some ⟨b, o, none⟩) nr cap, .int .i64 m, .int .i64 s] 24)).alloc (.cells #[.int .u8 x.k, .int .i64 x.a, .int .i64 x.b, .int .i64 x.c, .int .i64 x.d] 47)).cell? ⟨w.heap.size, 1, none⟩ = some (.int .i64 m) := by go_simp
  have i2 : ((w.alloc (.cells #[.slice (some ⟨b, o, none⟩) nr cap, .int .i64 m, .int .i64 s] 24)).alloc (.cells #[.int .u8 x.k, .int .i64 x.a, .int .i64 x.b, .int .i64 x.c, .int .i64 x.d] 47)).cell? ⟨w.heap.size, 2, none⟩ = some (.int .i64 s) := by go_simp
  have k0 : ((w.alloc (.cells #[.slice (some ⟨b, o, none⟩) nr cap, .int .i64 m, .int .i64 s] 24)).alloc (.cells #[.int .u8 x.k, .int .i64 x.a, .int .i64 x.b, .int .i64 x.c, .int .i64 x.d] 47)).cell? ⟨w.heap.size + 1, 0, none⟩ = some (.int .u8 x.k) := by go_simp
  have k1 : ((w.alloc (.cells #[.slice (some ⟨b, o, none⟩) nr cap, .int .i64 m, .int .i64 s] 24)).alloc (.cells #[.int .u8 x.k, .int .i64 x.a, .int .i64 x.b, .int .i64 x.c, .int .i64 x.d] 47)).cell? ⟨w.heap.size + 1, 1, none⟩ = some (.int .i64 x.a) := by go_simp
  have k2 : ((w.alloc (.cells #[.slice (some ⟨b, o, none⟩) nr cap, .int .i64 m, .int .i64 s] 24)).alloc (.cells #[.int .u8 x.k, .int .i64 x.a, .int .i64 x.b, .int .i64 x.c, .int .i64 x.d] 47)).cell? ⟨w.heap.size + 1, 2, none⟩ = some (.int .i64 x.b) := by go_simp
  have k3 : ((w.alloc (.cells #[.slice (some ⟨b, o, none⟩) nr cap, .int .i64 m, .int .i64 s] 24)).alloc (.cells #[.int .u8 x.k, .int .i64 x.a, .int .i64 x.b, .int .i64 x.c, .int .i64 x.d] 47)).cell? ⟨w.heap.size + 1, 3, none⟩ = some (.int .i64 x.c) := by go_simp
  have k4 : ((w.alloc (.cells #[.slice (some ⟨b, o, none⟩) nr cap, .int .i64 m, .int .i64 s] 24)).alloc (.cells #[.int .u8 x.k, .int .i64 x.a, .int .i64 x.b, .int .i64 x.c, .int .i64 x.d] 47)).cell? ⟨w.heap.size + 1, 4, none⟩ = some (.int .i64 x.d) := by go_simp
  obtain ⟨r, hr⟩ : ∃ r, rol x.k = r := ⟨_, rfl⟩
  have hrc := rol_cases x.k
  rw [hr] at hrc
  have hF : flt l R i = if vld x = false then 3 else if r = 0 then (if x.k = 30 ∨ x.k = 31 then cfl l x.a else 0) else match part l i with
      | none => 23
      | some t => if r = 3 then (if 0 ≤ outer R i then 20 else 0) else if r = 1 ∨ r = 2 then (if own R i ≠ own R t then 20 else 0) else 0 := by
    unfold flt; rw [hi]; simp only [hr]
  have HR := Lib.hid hr
  clear h hL hsr hi hri hr
  cases hv : validB x.k x.a x.b x.c x.d
  · rw [show vld x = false from hv, if_pos rfl] at hF
    rw [hF]
    have HV := Lib.hid hv
    clear hF hv
    go_enter Tryd.func60, Tryd.ntmps60
    go_wp2_with (first | (go_at_call 23; refine (valid_any x.k x.a x.b x.c x.d _ hk (HL.out.below HA2.out)).mono ?_; rintro e w1 ⟨rfl, hb⟩; rw [HV.out]; have HB := Lib.hid (below_on HA2.out hb); replace i0 := cell_on hb i0; replace i1 := cell_on hb i1; replace i2 := cell_on hb i2; replace k0 := cell_on hb k0; replace k1 := cell_on hb k1; replace k2 := cell_on hb k2; replace k3 := cell_on hb k3; replace k4 := cell_on hb k4; have hlt1 := World.block_lt_of_cell? w1 _ k0; clear hb))
    go_ret
    exact ⟨rfl, HB.out⟩
  rw [show vld x = true from hv, if_neg (by decide)] at hF
  have HV := Lib.hid hv
  clear hv
  rcases hrc with rfl | rfl | rfl | rfl | rfl
  · rw [if_pos rfl] at hF
    go_enter Tryd.func60, Tryd.ntmps60
    go_upto_region 6 with (first | (go_at_call 23; refine (valid_any x.k x.a x.b x.c x.d _ hk (HL.out.below HA2.out)).mono ?_; rintro e w1 ⟨rfl, hb⟩; rw [HV.out]; have HB := Lib.hid (below_on HA2.out hb); replace i0 := cell_on hb i0; replace i1 := cell_on hb i1; replace i2 := cell_on hb i2; replace k0 := cell_on hb k0; replace k1 := cell_on hb k1; replace k2 := cell_on hb k2; replace k3 := cell_on hb k3; replace k4 := cell_on hb k4; have hlt1 := World.block_lt_of_cell? w1 _ k0; clear hb) | (go_at_call 73; refine (role_any _ _).mono ?_; rintro e w2 ⟨rfl, rfl⟩; rw [HR.out]))
    by_cases h30 : x.k = 30
    · rw [if_pos (.inl h30)] at hF
      have HF := Lib.hid hF
      have hb0 : (x.k == 30) = true := by simpa using h30
      clear hF
      go_wp2_with (first | (go_at_call 74; refine (callFault_any (some ⟨b, o, none⟩) nr cap l m s x.a _ (HS.out.below HB.out) hn hw (HL.out.below HB.out)).mono ?_; rintro e w3 ⟨rfl, hb⟩; replace HB := Lib.hid (below_on HB.out hb); clear hb))
      go_ret
      exact ⟨ret_int HF.out.symm, HB.out⟩
    by_cases h31 : x.k = 31
    · rw [if_pos (.inr h31)] at hF
      have HF := Lib.hid hF
      have hb0 : (x.k == 30) = false := by simpa using h30
      have hb1 : (x.k == 31) = true := by simpa using h31
      clear hF
      go_wp2_with (first | (go_at_call 74; refine (callFault_any (some ⟨b, o, none⟩) nr cap l m s x.a _ (HS.out.below HB.out) hn hw (HL.out.below HB.out)).mono ?_; rintro e w3 ⟨rfl, hb⟩; replace HB := Lib.hid (below_on HB.out hb); clear hb))
      go_ret
      exact ⟨ret_int HF.out.symm, HB.out⟩
    rw [if_neg (by omega)] at hF
    have HF := Lib.hid hF
    have hb0 : (x.k == 30) = false := by simpa using h30
    have hb1 : (x.k == 31) = false := by simpa using h31
    clear hF
    go_wp2
    go_ret
    exact ⟨ret_int HF.out.symm, HB.out⟩
  · rw [if_neg (by decide)] at hF
    cases hp : part l i with
    | none =>
      rw [hp] at hF
      have HP := Lib.hid hp
      rw [hF]
      clear hF hp
      go_enter Tryd.func60, Tryd.ntmps60
      go_upto_region 16 with (first | (go_at_call 23; refine (valid_any x.k x.a x.b x.c x.d _ hk (HL.out.below HA2.out)).mono ?_; rintro e w1 ⟨rfl, hb⟩; rw [HV.out]; have HB := Lib.hid (below_on HA2.out hb); replace i0 := cell_on hb i0; replace i1 := cell_on hb i1; replace i2 := cell_on hb i2; replace k0 := cell_on hb k0; replace k1 := cell_on hb k1; replace k2 := cell_on hb k2; replace k3 := cell_on hb k3; replace k4 := cell_on hb k4; have hlt1 := World.block_lt_of_cell? w1 _ k0; clear hb) | (go_at_call 73; refine (role_any _ _).mono ?_; rintro e w2 ⟨rfl, rfl⟩; rw [HR.out]) | (go_at_call 72; refine (partner_any (some ⟨b, o, none⟩) nr cap l m s i _ (HS.out.below HB.out) hn hw (HL.out.below HB.out)).mono ?_; rw [HP.out]; rintro e w3 ⟨rfl, hb⟩; replace HB := Lib.hid (below_on HB.out hb); replace i0 := cell_on hb i0; replace i1 := cell_on hb i1; replace i2 := cell_on hb i2; replace k0 := cell_on hb k0; replace k1 := cell_on hb k1; replace k2 := cell_on hb k2; replace k3 := cell_on hb k3; replace k4 := cell_on hb k4; skip; clear hb))
      go_quiet (fail)
      replace HB := Lib.hid (below_drewN HB.out nq)
      go_wp2_with (first | (go_at_call 72; refine (partner_any (some ⟨b, o, none⟩) nr cap l m s i _ (HS.out.below HB.out) hn hw (HL.out.below HB.out)).mono ?_; rw [HP.out]; rintro e w3 ⟨rfl, hb⟩; replace HB := Lib.hid (below_on HB.out hb); replace i0 := cell_on hb i0; replace i1 := cell_on hb i1; replace i2 := cell_on hb i2; replace k0 := cell_on hb k0; replace k1 := cell_on hb k1; replace k2 := cell_on hb k2; replace k3 := cell_on hb k3; replace k4 := cell_on hb k4; skip; clear hb))
      go_ret
      exact ⟨rfl, HB.out⟩
    | some t =>
      rw [hp] at hF
      have HP := Lib.hid hp
      obtain ⟨q, rfl, hq⟩ := (part_iff l i t).1 hp
      have hql := hq.lt.2
      have hqn : (q : Int) < (nr : Int) := by omega
      obtain ⟨rt, hrt⟩ : ∃ y, R[q]? = some y := ⟨_, List.getElem?_eq_getElem (show q < R.length by omega)⟩
      have HRT := Lib.hid hrt
      have ho2 : own R q = rt.1 := by unfold own; rw [Int.toNat_natCast, List.getD_eq_getElem?_getD, hrt]; rfl
      simp only [ho, ho2] at hF
      rw [if_neg (by decide), if_pos (by decide)] at hF
      clear hp hq hql hrt
      by_cases hoo : ri.1 = rt.1
      · rw [if_neg (by rw [hoo]; simp)] at hF
        rw [hF]
        have hb0 : (ri.1 != rt.1) = false := by simpa using hoo
        clear hF
        go_enter Tryd.func60, Tryd.ntmps60
        go_upto_region 16 with (first | (go_at_call 23; refine (valid_any x.k x.a x.b x.c x.d _ hk (HL.out.below HA2.out)).mono ?_; rintro e w1 ⟨rfl, hb⟩; rw [HV.out]; have HB := Lib.hid (below_on HA2.out hb); replace i0 := cell_on hb i0; replace i1 := cell_on hb i1; replace i2 := cell_on hb i2; replace k0 := cell_on hb k0; replace k1 := cell_on hb k1; replace k2 := cell_on hb k2; replace k3 := cell_on hb k3; replace k4 := cell_on hb k4; have hlt1 := World.block_lt_of_cell? w1 _ k0; clear hb) | (go_at_call 73; refine (role_any _ _).mono ?_; rintro e w2 ⟨rfl, rfl⟩; rw [HR.out]) | (go_at_call 72; refine (partner_any (some ⟨b, o, none⟩) nr cap l m s i _ (HS.out.below HB.out) hn hw (HL.out.below HB.out)).mono ?_; rw [HP.out]; rintro e w3 ⟨rfl, hb⟩; replace HB := Lib.hid (below_on HB.out hb); replace i0 := cell_on hb i0; replace i1 := cell_on hb i1; replace i2 := cell_on hb i2; replace k0 := cell_on hb k0; replace k1 := cell_on hb k1; replace k2 := cell_on hb k2; replace k3 := cell_on hb k3; replace k4 := cell_on hb k4; obtain ⟨b1, o1, hr1, _, r0, r1⟩ := (HSR.out.below HB.out).at HRI.out; cases hr1; obtain ⟨b2, o2, hr2, _, r2, r3⟩ := (HSR.out.below HB.out).at HRT.out; cases hr2; clear hb))
        go_quiet (fail)
        replace HB := Lib.hid (below_drewN HB.out nq)
        go_wp2_with (first | (go_at_call 72; refine (partner_any (some ⟨b, o, none⟩) nr cap l m s i _ (HS.out.below HB.out) hn hw (HL.out.below HB.out)).mono ?_; rw [HP.out]; rintro e w3 ⟨rfl, hb⟩; replace HB := Lib.hid (below_on HB.out hb); replace i0 := cell_on hb i0; replace i1 := cell_on hb i1; replace i2 := cell_on hb i2; replace k0 := cell_on hb k0; replace k1 := cell_on hb k1; replace k2 := cell_on hb k2; replace k3 := cell_on hb k3; replace k4 := cell_on hb k4; skip; clear hb))
        go_ret
        exact ⟨rfl, HB.out⟩
      · rw [if_pos hoo] at hF
        rw [hF]
        have hb0 : (ri.1 != rt.1) = true := by simpa using hoo
        clear hF
        go_enter Tryd.func60, Tryd.ntmps60
        go_upto_region 16 with (first | (go_at_call 23; refine (valid_any x.k x.a x.b x.c x.d _ hk (HL.out.below HA2.out)).mono ?_; rintro e w1 ⟨rfl, hb⟩; rw [HV.out]; have HB := Lib.hid (below_on HA2.out hb); replace i0 := cell_on hb i0; replace i1 := cell_on hb i1; replace i2 := cell_on hb i2; replace k0 := cell_on hb k0; replace k1 := cell_on hb k1; replace k2 := cell_on hb k2; replace k3 := cell_on hb k3; replace k4 := cell_on hb k4; have hlt1 := World.block_lt_of_cell? w1 _ k0; clear hb) | (go_at_call 73; refine (role_any _ _).mono ?_; rintro e w2 ⟨rfl, rfl⟩; rw [HR.out]) | (go_at_call 72; refine (partner_any (some ⟨b, o, none⟩) nr cap l m s i _ (HS.out.below HB.out) hn hw (HL.out.below HB.out)).mono ?_; rw [HP.out]; rintro e w3 ⟨rfl, hb⟩; replace HB := Lib.hid (below_on HB.out hb); replace i0 := cell_on hb i0; replace i1 := cell_on hb i1; replace i2 := cell_on hb i2; replace k0 := cell_on hb k0; replace k1 := cell_on hb k1; replace k2 := cell_on hb k2; replace k3 := cell_on hb k3; replace k4 := cell_on hb k4; obtain ⟨b1, o1, hr1, _, r0, r1⟩ := (HSR.out.below HB.out).at HRI.out; cases hr1; obtain ⟨b2, o2, hr2, _, r2, r3⟩ := (HSR.out.below HB.out).at HRT.out; cases hr2; clear hb))
        go_quiet (fail)
        go_wp2
        go_ret
        exact ⟨rfl, below_drewN HB.out _⟩
  · rw [if_neg (by decide)] at hF
    cases hp : part l i with
    | none =>
      rw [hp] at hF
      have HP := Lib.hid hp
      rw [hF]
      clear hF hp
      go_enter Tryd.func60, Tryd.ntmps60
      go_upto_region 16 with (first | (go_at_call 23; refine (valid_any x.k x.a x.b x.c x.d _ hk (HL.out.below HA2.out)).mono ?_; rintro e w1 ⟨rfl, hb⟩; rw [HV.out]; have HB := Lib.hid (below_on HA2.out hb); replace i0 := cell_on hb i0; replace i1 := cell_on hb i1; replace i2 := cell_on hb i2; replace k0 := cell_on hb k0; replace k1 := cell_on hb k1; replace k2 := cell_on hb k2; replace k3 := cell_on hb k3; replace k4 := cell_on hb k4; have hlt1 := World.block_lt_of_cell? w1 _ k0; clear hb) | (go_at_call 73; refine (role_any _ _).mono ?_; rintro e w2 ⟨rfl, rfl⟩; rw [HR.out]) | (go_at_call 72; refine (partner_any (some ⟨b, o, none⟩) nr cap l m s i _ (HS.out.below HB.out) hn hw (HL.out.below HB.out)).mono ?_; rw [HP.out]; rintro e w3 ⟨rfl, hb⟩; replace HB := Lib.hid (below_on HB.out hb); replace i0 := cell_on hb i0; replace i1 := cell_on hb i1; replace i2 := cell_on hb i2; replace k0 := cell_on hb k0; replace k1 := cell_on hb k1; replace k2 := cell_on hb k2; replace k3 := cell_on hb k3; replace k4 := cell_on hb k4; skip; clear hb))
      go_quiet (fail)
      replace HB := Lib.hid (below_drewN HB.out nq)
      go_wp2_with (first | (go_at_call 72; refine (partner_any (some ⟨b, o, none⟩) nr cap l m s i _ (HS.out.below HB.out) hn hw (HL.out.below HB.out)).mono ?_; rw [HP.out]; rintro e w3 ⟨rfl, hb⟩; replace HB := Lib.hid (below_on HB.out hb); replace i0 := cell_on hb i0; replace i1 := cell_on hb i1; replace i2 := cell_on hb i2; replace k0 := cell_on hb k0; replace k1 := cell_on hb k1; replace k2 := cell_on hb k2; replace k3 := cell_on hb k3; replace k4 := cell_on hb k4; skip; clear hb))
      go_ret
      exact ⟨rfl, HB.out⟩
    | some t =>
      rw [hp] at hF
      have HP := Lib.hid hp
      obtain ⟨q, rfl, hq⟩ := (part_iff l i t).1 hp
      have hql := hq.lt.2
      have hqn : (q : Int) < (nr : Int) := by omega
      obtain ⟨rt, hrt⟩ : ∃ y, R[q]? = some y := ⟨_, List.getElem?_eq_getElem (show q < R.length by omega)⟩
      have HRT := Lib.hid hrt
      have ho2 : own R q = rt.1 := by unfold own; rw [Int.toNat_natCast, List.getD_eq_getElem?_getD, hrt]; rfl
      simp only [ho, ho2] at hF
      rw [if_neg (by decide), if_pos (by decide)] at hF
      clear hp hq hql hrt
      by_cases hoo : ri.1 = rt.1
      · rw [if_neg (by rw [hoo]; simp)] at hF
        rw [hF]
        have hb0 : (ri.1 != rt.1) = false := by simpa using hoo
        clear hF
        go_enter Tryd.func60, Tryd.ntmps60
        go_upto_region 16 with (first | (go_at_call 23; refine (valid_any x.k x.a x.b x.c x.d _ hk (HL.out.below HA2.out)).mono ?_; rintro e w1 ⟨rfl, hb⟩; rw [HV.out]; have HB := Lib.hid (below_on HA2.out hb); replace i0 := cell_on hb i0; replace i1 := cell_on hb i1; replace i2 := cell_on hb i2; replace k0 := cell_on hb k0; replace k1 := cell_on hb k1; replace k2 := cell_on hb k2; replace k3 := cell_on hb k3; replace k4 := cell_on hb k4; have hlt1 := World.block_lt_of_cell? w1 _ k0; clear hb) | (go_at_call 73; refine (role_any _ _).mono ?_; rintro e w2 ⟨rfl, rfl⟩; rw [HR.out]) | (go_at_call 72; refine (partner_any (some ⟨b, o, none⟩) nr cap l m s i _ (HS.out.below HB.out) hn hw (HL.out.below HB.out)).mono ?_; rw [HP.out]; rintro e w3 ⟨rfl, hb⟩; replace HB := Lib.hid (below_on HB.out hb); replace i0 := cell_on hb i0; replace i1 := cell_on hb i1; replace i2 := cell_on hb i2; replace k0 := cell_on hb k0; replace k1 := cell_on hb k1; replace k2 := cell_on hb k2; replace k3 := cell_on hb k3; replace k4 := cell_on hb k4; obtain ⟨b1, o1, hr1, _, r0, r1⟩ := (HSR.out.below HB.out).at HRI.out; cases hr1; obtain ⟨b2, o2, hr2, _, r2, r3⟩ := (HSR.out.below HB.out).at HRT.out; cases hr2; clear hb))
        go_quiet (fail)
        replace HB := Lib.hid (below_drewN HB.out nq)
        go_wp2_with (first | (go_at_call 72; refine (partner_any (some ⟨b, o, none⟩) nr cap l m s i _ (HS.out.below HB.out) hn hw (HL.out.below HB.out)).mono ?_; rw [HP.out]; rintro e w3 ⟨rfl, hb⟩; replace HB := Lib.hid (below_on HB.out hb); replace i0 := cell_on hb i0; replace i1 := cell_on hb i1; replace i2 := cell_on hb i2; replace k0 := cell_on hb k0; replace k1 := cell_on hb k1; replace k2 := cell_on hb k2; replace k3 := cell_on hb k3; replace k4 := cell_on hb k4; skip; clear hb))
        go_ret
        exact ⟨rfl, HB.out⟩
      · rw [if_pos hoo] at hF
        rw [hF]
        have hb0 : (ri.1 != rt.1) = true := by simpa using hoo
        clear hF
        go_enter Tryd.func60, Tryd.ntmps60
        go_upto_region 16 with (first | (go_at_call 23; refine (valid_any x.k x.a x.b x.c x.d _ hk (HL.out.below HA2.out)).mono ?_; rintro e w1 ⟨rfl, hb⟩; rw [HV.out]; have HB := Lib.hid (below_on HA2.out hb); replace i0 := cell_on hb i0; replace i1 := cell_on hb i1; replace i2 := cell_on hb i2; replace k0 := cell_on hb k0; replace k1 := cell_on hb k1; replace k2 := cell_on hb k2; replace k3 := cell_on hb k3; replace k4 := cell_on hb k4; have hlt1 := World.block_lt_of_cell? w1 _ k0; clear hb) | (go_at_call 73; refine (role_any _ _).mono ?_; rintro e w2 ⟨rfl, rfl⟩; rw [HR.out]) | (go_at_call 72; refine (partner_any (some ⟨b, o, none⟩) nr cap l m s i _ (HS.out.below HB.out) hn hw (HL.out.below HB.out)).mono ?_; rw [HP.out]; rintro e w3 ⟨rfl, hb⟩; replace HB := Lib.hid (below_on HB.out hb); replace i0 := cell_on hb i0; replace i1 := cell_on hb i1; replace i2 := cell_on hb i2; replace k0 := cell_on hb k0; replace k1 := cell_on hb k1; replace k2 := cell_on hb k2; replace k3 := cell_on hb k3; replace k4 := cell_on hb k4; obtain ⟨b1, o1, hr1, _, r0, r1⟩ := (HSR.out.below HB.out).at HRI.out; cases hr1; obtain ⟨b2, o2, hr2, _, r2, r3⟩ := (HSR.out.below HB.out).at HRT.out; cases hr2; clear hb))
        go_quiet (fail)
        go_wp2
        go_ret
        exact ⟨rfl, below_drewN HB.out _⟩
  · rw [if_neg (by decide)] at hF
    cases hp : part l i with
    | none =>
      rw [hp] at hF
      have HP := Lib.hid hp
      rw [hF]
      clear hF hp
      go_enter Tryd.func60, Tryd.ntmps60
      go_wp2_with (first | (go_at_call 23; refine (valid_any x.k x.a x.b x.c x.d _ hk (HL.out.below HA2.out)).mono ?_; rintro e w1 ⟨rfl, hb⟩; rw [HV.out]; have HB := Lib.hid (below_on HA2.out hb); replace i0 := cell_on hb i0; replace i1 := cell_on hb i1; replace i2 := cell_on hb i2; replace k0 := cell_on hb k0; replace k1 := cell_on hb k1; replace k2 := cell_on hb k2; replace k3 := cell_on hb k3; replace k4 := cell_on hb k4; have hlt1 := World.block_lt_of_cell? w1 _ k0; clear hb) | (go_at_call 73; refine (role_any _ _).mono ?_; rintro e w2 ⟨rfl, rfl⟩; rw [HR.out]) | (go_at_call 72; refine (partner_any (some ⟨b, o, none⟩) nr cap l m s i _ (HS.out.below HB.out) hn hw (HL.out.below HB.out)).mono ?_; rw [HP.out]; rintro e w3 ⟨rfl, hb⟩; replace HB := Lib.hid (below_on HB.out hb); replace i0 := cell_on hb i0; replace i1 := cell_on hb i1; replace i2 := cell_on hb i2; replace k0 := cell_on hb k0; replace k1 := cell_on hb k1; replace k2 := cell_on hb k2; replace k3 := cell_on hb k3; replace k4 := cell_on hb k4; skip; clear hb))
      go_ret
      exact ⟨rfl, HB.out⟩
    | some t =>
      rw [hp] at hF
      have HP := Lib.hid hp
      dsimp only at hF
      rw [if_pos rfl, hu] at hF
      clear hp
      by_cases hoo : 0 ≤ ri.2
      · rw [if_pos hoo] at hF
        rw [hF]
        have hb0 : decide (0 ≤ ri.2) = true := by simpa using hoo
        clear hF
        go_enter Tryd.func60, Tryd.ntmps60
        go_wp2_with (first | (go_at_call 23; refine (valid_any x.k x.a x.b x.c x.d _ hk (HL.out.below HA2.out)).mono ?_; rintro e w1 ⟨rfl, hb⟩; rw [HV.out]; have HB := Lib.hid (below_on HA2.out hb); replace i0 := cell_on hb i0; replace i1 := cell_on hb i1; replace i2 := cell_on hb i2; replace k0 := cell_on hb k0; replace k1 := cell_on hb k1; replace k2 := cell_on hb k2; replace k3 := cell_on hb k3; replace k4 := cell_on hb k4; have hlt1 := World.block_lt_of_cell? w1 _ k0; clear hb) | (go_at_call 73; refine (role_any _ _).mono ?_; rintro e w2 ⟨rfl, rfl⟩; rw [HR.out]) | (go_at_call 72; refine (partner_any (some ⟨b, o, none⟩) nr cap l m s i _ (HS.out.below HB.out) hn hw (HL.out.below HB.out)).mono ?_; rw [HP.out]; rintro e w3 ⟨rfl, hb⟩; replace HB := Lib.hid (below_on HB.out hb); replace i0 := cell_on hb i0; replace i1 := cell_on hb i1; replace i2 := cell_on hb i2; replace k0 := cell_on hb k0; replace k1 := cell_on hb k1; replace k2 := cell_on hb k2; replace k3 := cell_on hb k3; replace k4 := cell_on hb k4; obtain ⟨b1, o1, hr1, _, r0, r1⟩ := (HSR.out.below HB.out).at HRI.out; cases hr1; clear hb))
        go_ret
        exact ⟨rfl, HB.out⟩
      · rw [if_neg hoo] at hF
        rw [hF]
        have hb0 : decide (0 ≤ ri.2) = false := by simpa using hoo
        clear hF
        go_enter Tryd.func60, Tryd.ntmps60
        go_wp2_with (first | (go_at_call 23; refine (valid_any x.k x.a x.b x.c x.d _ hk (HL.out.below HA2.out)).mono ?_; rintro e w1 ⟨rfl, hb⟩; rw [HV.out]; have HB := Lib.hid (below_on HA2.out hb); replace i0 := cell_on hb i0; replace i1 := cell_on hb i1; replace i2 := cell_on hb i2; replace k0 := cell_on hb k0; replace k1 := cell_on hb k1; replace k2 := cell_on hb k2; replace k3 := cell_on hb k3; replace k4 := cell_on hb k4; have hlt1 := World.block_lt_of_cell? w1 _ k0; clear hb) | (go_at_call 73; refine (role_any _ _).mono ?_; rintro e w2 ⟨rfl, rfl⟩; rw [HR.out]) | (go_at_call 72; refine (partner_any (some ⟨b, o, none⟩) nr cap l m s i _ (HS.out.below HB.out) hn hw (HL.out.below HB.out)).mono ?_; rw [HP.out]; rintro e w3 ⟨rfl, hb⟩; replace HB := Lib.hid (below_on HB.out hb); replace i0 := cell_on hb i0; replace i1 := cell_on hb i1; replace i2 := cell_on hb i2; replace k0 := cell_on hb k0; replace k1 := cell_on hb k1; replace k2 := cell_on hb k2; replace k3 := cell_on hb k3; replace k4 := cell_on hb k4; obtain ⟨b1, o1, hr1, _, r0, r1⟩ := (HSR.out.below HB.out).at HRI.out; cases hr1; clear hb))
        go_ret
        exact ⟨rfl, HB.out⟩
  · rw [if_neg (by decide)] at hF
    cases hp : part l i with
    | none =>
      rw [hp] at hF
      have HP := Lib.hid hp
      rw [hF]
      clear hF hp
      go_enter Tryd.func60, Tryd.ntmps60
      go_wp2_with (first | (go_at_call 23; refine (valid_any x.k x.a x.b x.c x.d _ hk (HL.out.below HA2.out)).mono ?_; rintro e w1 ⟨rfl, hb⟩; rw [HV.out]; have HB := Lib.hid (below_on HA2.out hb); replace i0 := cell_on hb i0; replace i1 := cell_on hb i1; replace i2 := cell_on hb i2; replace k0 := cell_on hb k0; replace k1 := cell_on hb k1; replace k2 := cell_on hb k2; replace k3 := cell_on hb k3; replace k4 := cell_on hb k4; have hlt1 := World.block_lt_of_cell? w1 _ k0; clear hb) | (go_at_call 73; refine (role_any _ _).mono ?_; rintro e w2 ⟨rfl, rfl⟩; rw [HR.out]) | (go_at_call 72; refine (partner_any (some ⟨b, o, none⟩) nr cap l m s i _ (HS.out.below HB.out) hn hw (HL.out.below HB.out)).mono ?_; rw [HP.out]; rintro e w3 ⟨rfl, hb⟩; replace HB := Lib.hid (below_on HB.out hb); replace i0 := cell_on hb i0; replace i1 := cell_on hb i1; replace i2 := cell_on hb i2; replace k0 := cell_on hb k0; replace k1 := cell_on hb k1; replace k2 := cell_on hb k2; replace k3 := cell_on hb k3; replace k4 := cell_on hb k4; skip; clear hb))
      go_ret
      exact ⟨rfl, HB.out⟩
    | some t =>
      rw [hp] at hF
      have HP := Lib.hid hp
      simp only at hF
      rw [if_neg (by decide), if_neg (by decide)] at hF
      rw [hF]
      clear hF hp
      go_enter Tryd.func60, Tryd.ntmps60
      go_wp2_with (first | (go_at_call 23; refine (valid_any x.k x.a x.b x.c x.d _ hk (HL.out.below HA2.out)).mono ?_; rintro e w1 ⟨rfl, hb⟩; rw [HV.out]; have HB := Lib.hid (below_on HA2.out hb); replace i0 := cell_on hb i0; replace i1 := cell_on hb i1; replace i2 := cell_on hb i2; replace k0 := cell_on hb k0; replace k1 := cell_on hb k1; replace k2 := cell_on hb k2; replace k3 := cell_on hb k3; replace k4 := cell_on hb k4; have hlt1 := World.block_lt_of_cell? w1 _ k0; clear hb) | (go_at_call 73; refine (role_any _ _).mono ?_; rintro e w2 ⟨rfl, rfl⟩; rw [HR.out]) | (go_at_call 72; refine (partner_any (some ⟨b, o, none⟩) nr cap l m s i _ (HS.out.below HB.out) hn hw (HL.out.below HB.out)).mono ?_; rw [HP.out]; rintro e w3 ⟨rfl, hb⟩; replace HB := Lib.hid (below_on HB.out hb); replace i0 := cell_on hb i0; replace i1 := cell_on hb i1; replace i2 := cell_on hb i2; replace k0 := cell_on hb k0; replace k1 := cell_on hb k1; replace k2 := cell_on hb k2; replace k3 := cell_on hb k3; replace k4 := cell_on hb k4; skip; clear hb))
      go_ret
      exact ⟨rfl, HB.out⟩
end Go.Proofs.YtfhojpnofmlkdaaDoor
