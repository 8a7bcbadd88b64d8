/- Contracts: Same, Halt, Procs. -/
import Derived.Test.YtalkhkhnpplofaaDoorRows
import Derived.WalkKit
import Derived.ProofKit
import Derived.OpenShut
import Derived.Below
import Derived.Lib.Hide
import Derived.Outline
import Derived.WalkLawsBesides
import Derived.WalkSpells
import Derived.WalkSmall
import Derived.IntWalk
import Derived.Deep.QuietTactic
import Derived.BigQuiet
import Derived.Deep.RegionHeld3
import Derived.StillTailTactics
import Derived.Handy
import Derived.Deep.Cut
import Derived.Deep.OwnRows
import Derived.Deep.RegionWith
import Derived.Test.YtalkhkhnpplofaaDoorCheck
import Derived.Laws.StructEq
namespace Go.Proofs.YtalkhkhnpplofaaDoor
open Go.ChangeShapes Go.WideShapes Go.ChangeAt Go.RowKit
set_option linter.unusedSimpArgs false
set_option linter.unusedVariables false

theorem Tryd.struct39 : Tryd.prog.underlying 39 = some (.struct (Tryd.prog.fieldsOf 39)) := by kernel_rfl
theorem Tryd.held39 : Tryd.prog.stoodInHeld 39 = false := by kernel_rfl
theorem neq_ins (x y : Ins) (w : World) : Sem.run Tryd.prog (binOp .neq 39 (.agg #[.int .u8 x.k, .int .i64 x.a, .int .i64 x.b, .int .i64 x.c, .int .i64 x.d]) (.agg #[.int .u8 y.k, .int .i64 y.a, .int .i64 y.b, .int .i64 y.c, .int .i64 y.d])) w = .ok (.bool (!(decide (x = y)))) w := by
  have u3 := Tryd.underlying3
  have u5 := Tryd.underlying5
  have a3 := Tryd.isAgg3
  have z3 := Tryd.sizeOf3
  have a5 := Tryd.isAgg5
  have z5 := Tryd.sizeOf5
  obtain ⟨k, a, b, c, d⟩ := x
  obtain ⟨k', a', b', c', d'⟩ := y
  rw [run_neq_struct, show (10000 : Nat) = 9999 + 1 from rfl, run_equalIn_agg w 9999 39 _ _ Tryd.struct39 Tryd.held39]
  simp only [Program.fieldsOf, Tryd.underlying39]
  have key : decide (Ins.mk k a b c d = Ins.mk k' a' b' c' d') = (decide (k = k') && (decide (a = a') && (decide (b = b') && (decide (c = c') && decide (d = d'))))) := by
    rw [Bool.eq_iff_iff]; simp [Ins.mk.injEq]
  rw [key]
  by_cases h1 : k = k'
  · subst h1
    by_cases h2 : a = a'
    · subst h2
      by_cases h3 : b = b'
      · subst h3
        by_cases h4 : c = c'
        · subst h4
          by_cases h5 : d = d'
          · subst h5; go_simp
          · have e3 : (d == d') = false := by simpa using h5
            go_simp
        · have e3 : (c == c') = false := by simpa using h4
          go_simp
      · have e3 : (b == b') = false := by simpa using h3
        go_simp
    · have e3 : (a == a') = false := by simpa using h2
      go_simp
  · have e3 : (k == k') = false := by simpa using h1
    go_simp
theorem below_drewN {B n : Nat} {w w' : World} (h : Below B w w') : Below B w (w'.drewN n) := ⟨h.os, h.tape, h.output, h.size, h.block⟩
/-- the reference's Same -/
def sameB (m s m' s' : Int) (l l' : List Ins) : Bool := decide (m = m') && (decide (s = s') && decide (l = l'))
theorem take_eq_succ {l l' : List Ins} {k : Nat} {x y : Ins} (hx : l[k]? = some x) (hy : l'[k]? = some y) (h : l.take k = l'.take k) (e : x = y) : l.take (k + 1) = l'.take (k + 1) := by
  rw [List.take_add_one, List.take_add_one, h, hx, hy, e]
set_option maxRecDepth 100000 in
set_option maxHeartbeats 2000000 in
theorem same_any (a a' : Option Addr) (n cap n' cap' : Nat) (m s m' s' : Int) (l l' : List Ins) (w : World) (h : SliceC w a l) (hn : l.length = n) (h' : SliceC w a' l') (hn' : l'.length = n') (hm : n ≤ 300) :
    Calls Tryd.prog 22 #[.agg #[.slice a n cap, .int .i64 m, .int .i64 s], .agg #[.slice a' n' cap', .int .i64 m', .int .i64 s']] w fun e w' => e = .returned (.bool (sameB m s m' s' l l')) ∧ Below w.heap.size w w' := by
  have HA : Hid (Below w.heap.size w ((w.alloc (.cells #[.slice a n cap, .int .i64 m, .int .i64 s] 24)).alloc (.cells #[.slice a' n' cap', .int .i64 m', .int .i64 s'] 24))) := Lib.hid (((Below.refl _ _).alloc (Nat.le_refl _) _).alloc (by simp) _)
  have HS := Lib.hid h
  have HS' := Lib.hid h'
  have HN := Lib.hid hn
  have HN' := Lib.hid hn'
  clear h h' hn hn'
  by_cases h1 : m = m'
  · have b1 : (m != m') = false := by simpa using h1
    by_cases h2 : s = s'
    · have b2 : (s != s') = false := by simpa using h2
      by_cases h3 : n = n'
      · have hr : sameB m s m' s' l l' = decide (l = l') := by unfold sameB; simp [h1, h2]
        rw [hr]
        subst h1 h2 h3
        clear hr b1 b2
        go_enter Tryd.func22, Tryd.ntmps22
        go_wp2
        have i0 : ((w.alloc (.cells #[.slice a n cap, .int .i64 m, .int .i64 s] 24)).alloc (.cells #[.slice a' n cap', .int .i64 m, .int .i64 s] 24)).cell? ⟨w.heap.size, 0, none⟩ = some (.slice a n cap) := by go_simp
        have j0 : ((w.alloc (.cells #[.slice a n cap, .int .i64 m, .int .i64 s] 24)).alloc (.cells #[.slice a' n cap', .int .i64 m, .int .i64 s] 24)).cell? ⟨w.heap.size + 1, 0, none⟩ = some (.slice a' n cap') := by go_simp
        have HI := Lib.hid (And.intro i0 j0)
        clear i0 j0
        generalize ((w.alloc (.cells #[.slice a n cap, .int .i64 m, .int .i64 s] 24)).alloc (.cells #[.slice a' n cap', .int .i64 m, .int .i64 s] 24)) = W at *
        go_loopw [5] (fun x wr => ∃ k : Nat, k ≤ n ∧ x = .int .i64 k ∧ Hid (l.take k = l'.take k) ∧ Hid (wr.cell? ⟨w.heap.size, 0, none⟩ = some (.slice a n cap) ∧ wr.cell? ⟨w.heap.size + 1, 0, none⟩ = some (.slice a' n cap')) ∧ Hid (Below w.heap.size w wr)) (fun x _ => n - (intOf x).toNat)
        case atStart => exact ⟨0, by omega, rfl, Lib.hid rfl, HI, HA⟩
        case round =>
          clear HI HA
          obtain ⟨k, hk, rfl, HT, HI, HB⟩ := hrel
          obtain ⟨i0, j0⟩ := id HI.out
          by_cases hkn : k < n
          · have hdl : (k : Int) < (n : Int) := by omega
            obtain ⟨x, hx⟩ : ∃ x, l[k]? = some x := ⟨_, List.getElem?_eq_getElem (by have := HN.out; omega)⟩
            obtain ⟨y, hy⟩ : ∃ x, l'[k]? = some x := ⟨_, List.getElem?_eq_getElem (by have := HN'.out; omega)⟩
            obtain ⟨b, o, rfl, hbl, c0, c1, c2, c3, c4⟩ := (HS.out.below HB.out).at hx
            obtain ⟨b', o', rfl, hbl', d0, d1, d2, d3, d4⟩ := (HS'.out.below HB.out).at hy
            have HX := Lib.hid (And.intro hx hy)
            clear hx hy
            have hne := fun w => neq_ins x y w
            by_cases hxy : x = y
            · have hd : decide (x = y) = true := by simpa using hxy
              have HXY := Lib.hid hxy
              simp only [hd, Bool.not_true] at hne
              clear hd hxy
              go_upto_region 6 with fail
              go_quiet (fail)
              go_wp2
              go_roundw
              case rel => exact ⟨k + 1, by omega, by go_num, Lib.hid (take_eq_succ HX.out.1 HX.out.2 HT.out HXY.out), HI, Lib.hid (below_drewN HB.out)⟩
              case measure => simp [intOf]; omega
            · have hd : decide (x = y) = false := by simpa using hxy
              have HXY := Lib.hid hxy
              simp only [hd, Bool.not_false] at hne
              clear hd hxy
              go_upto_region 6 with fail
              go_quiet (fail)
              go_wp2
              go_ret
              refine ⟨ret_bool (Eq.symm (decide_eq_false fun e => HXY.out ?_)), below_drewN HB.out⟩
              subst e
              exact Option.some.inj (HX.out.1.symm.trans HX.out.2)
          · obtain rfl : k = n := by omega
            go_wp2
            go_ret
            refine ⟨ret_bool (Eq.symm (decide_eq_true ?_)), HB.out⟩
            have := HT.out
            rwa [List.take_of_length_le (by have := HN.out; omega), List.take_of_length_le (by have := HN'.out; omega)] at this
      · have b3 : ((n : Int) != (n' : Int)) = true := by rw [bne_iff_ne]; omega
        have hr : sameB m s m' s' l l' = false := by unfold sameB; have : ¬ l = l' := fun e => h3 (by rw [← HN.out, ← HN'.out, e]); simp [this]
        rw [hr]
        clear h1 h2 h3 hr
        go_enter Tryd.func22, Tryd.ntmps22
        go_wp2
        go_ret
        exact ⟨rfl, HA.out⟩
    · have b2 : (s != s') = true := by simpa using h2
      have hr : sameB m s m' s' l l' = false := by unfold sameB; simp [h2]
      rw [hr]
      clear h1 h2 hr
      go_enter Tryd.func22, Tryd.ntmps22
      go_wp2
      go_ret
      exact ⟨rfl, HA.out⟩
  · have b1 : (m != m') = true := by simpa using h1
    have hr : sameB m s m' s' l l' = false := by unfold sameB; simp [h1]
    rw [hr]
    clear h1 hr
    go_enter Tryd.func22, Tryd.ntmps22
    go_wp2
    go_ret
    exact ⟨rfl, HA.out⟩
/-- the index of the first instruction with an opcode -/
def fst34 (l : List Ins) : Option Nat := (List.range l.length).find? (fun i => (l[i]?).map (·.k) == some 34)
theorem fst34_none {l : List Ins} (h : ∀ j, j < l.length → (l[j]?).map (·.k) ≠ some 34) : fst34 l = none := by
  unfold fst34
  rw [List.find?_eq_none]
  intro j hj
  have := h j (by simpa using hj)
  simp [this]
theorem fst34_some {l : List Ins} {i : Nat} (hi : i < l.length) (h : ∀ j, j < i → (l[j]?).map (·.k) ≠ some 34) (hb : (l[i]?).map (·.k) = some 34) : fst34 l = some i := by
  unfold fst34
  rw [List.find?_range_eq_some]
  exact ⟨by simp [hb], by simpa using hi, fun j hj => by simp [h j hj]⟩
def fstI (l : List Ins) : Int := match fst34 l with | some i => (i : Int) | none => 0
def fstB (l : List Ins) : Bool := (fst34 l).isSome
set_option maxRecDepth 100000 in
set_option maxHeartbeats 2000000 in
theorem halt_any (a : Option Addr) (n cap : Nat) (m s : Int) (l : List Ins) (w : World) (h : SliceC w a l) (hn : l.length = n) (hm : n ≤ 300) :
    Calls Tryd.prog 20 #[.agg #[.slice a n cap, .int .i64 m, .int .i64 s]] w fun e w' => e = .returned (.tuple #[.int .i64 (fstI l), .bool (fstB l)]) ∧ Below w.heap.size w w' := by
  have HA : Hid (Below w.heap.size w (w.alloc (.cells #[.slice a n cap, .int .i64 m, .int .i64 s] 24))) := Lib.hid ((Below.refl _ _).alloc (Nat.le_refl _) _)
  have HS := Lib.hid h
  have HN := Lib.hid hn
  clear h hn
  go_enter Tryd.func20, Tryd.ntmps20
  go_wp2
  go_loopw [9] (fun x wr => ∃ k : Nat, k ≤ n ∧ x = .int .i64 k ∧ Hid (∀ j, j < k → (l[j]?).map (·.k) ≠ some 34) ∧ Hid (Below w.heap.size w wr)) (fun x _ => n - (intOf x).toNat)
  case atStart => exact ⟨0, by omega, rfl, Lib.hid (fun j hj => by omega), HA⟩
  case round =>
    clear HA
    obtain ⟨k, hk, rfl, HZ, HB⟩ := hrel
    by_cases hkn : k < n
    · have hdl : (k : Int) < (n : Int) := by omega
      obtain ⟨x, hx⟩ : ∃ x, l[k]? = some x := ⟨_, List.getElem?_eq_getElem (by have := HN.out; omega)⟩
      obtain ⟨b, o, rfl, hbl, c0, c1, c2, c3, c4⟩ := (HS.out.below HB.out).at hx
      have HX := Lib.hid hx
      have hbs := HB.out.size
      clear hx
      by_cases h34 : x.k = 34
      · have hb0 : (x.k == 34) = true := by simpa using h34
        have H34 := Lib.hid h34
        clear h34
        go_wp2
        go_ret2
        have hf : fst34 l = some k := fst34_some (by have := HN.out; omega) HZ.out (by rw [HX.out]; simp [H34.out])
        exact ⟨ret_pair (by unfold fstI; rw [hf]) (by unfold fstB; rw [hf]; rfl), HB.out.alloc hbs _⟩
      · have hb0 : (x.k == 34) = false := by simpa using h34
        have H34 := Lib.hid h34
        clear h34
        go_wp2
        go_roundw
        case rel => exact ⟨k + 1, by omega, by go_num, Lib.hid (fun j hj => by
            rcases Nat.lt_or_ge j k with h1 | h1
            · exact HZ.out j h1
            · have : j = k := by omega
              subst this
              rw [HX.out]
              simpa using H34.out), Lib.hid (HB.out.alloc hbs _)⟩
        case measure => simp [intOf]; omega
    · obtain rfl : k = n := by omega
      go_wp2
      go_ret2
      have hf : fst34 l = none := fst34_none (fun j hj => HZ.out j (by have := HN.out; omega))
      exact ⟨ret_pair (by unfold fstI; rw [hf]) (by unfold fstB; rw [hf]; rfl), HB.out⟩
end Go.Proofs.YtalkhkhnpplofaaDoor
