/- A new tape; great; inverse; awake. -/
import Derived.Test.YthbeillgpnffmaaRows
import Derived.WalkKit
import Derived.ProofKit
import Derived.OpenShut
import Derived.Below
import Derived.Lib.Hide
import Derived.WalkSpells
import Derived.WalkLawsBesides
import Derived.Outline
import Derived.WalkSmall
import Derived.IntWalk
import Derived.Deep.OwnRows
import Derived.Deep.QuietTactic
import Derived.BigQuiet
import Derived.Test.YthbeillgpnffmaaDo
namespace Go.Proofs.Ythbeillgpnffmaa
open Go.ChangeShapes Go.WideShapes Go.ChangeAt Go.RowKit
set_option linter.unusedSimpArgs false
set_option linter.unusedVariables false

theorem new_full (a1 a2 : Option Addr) (n1 n2 c1 c2 : Nat) (w : World) (h : 4096 < n1 ∨ 4096 < n2) :
    Calls Try.prog 13 #[.slice a1 n1 c1, .slice a2 n2 c2] w fun e w' => e = .returned (.tuple #[.pointer none, .int .i64 5]) ∧ w' = w := by
  by_cases h1 : 4096 < n1
  · have hd : decide ((4096 : Int) < (n1 : Int)) = true := by simp; omega
    have hd2 : (4096 : Int) < (n1 : Int) := by omega
    go_enter Try.func13, Try.ntmps13
    go_wp2
    go_ret2
    exact ⟨rfl, rfl⟩
  · have hd : decide ((4096 : Int) < (n1 : Int)) = false := by simp; omega
    have hd2 : ¬ (4096 : Int) < (n1 : Int) := by omega
    have hd3 : decide ((4096 : Int) < (n2 : Int)) = true := by simp; omega
    have hd4 : (4096 : Int) < (n2 : Int) := by omega
    go_enter Try.func13, Try.ntmps13
    go_wp2
    go_ret2
    exact ⟨rfl, rfl⟩
theorem new_ok (a1 a2 : Option Addr) (c1 c2 : Nat) (ins outs : List Int) (w : World) (h1 : SliceI w a1 ins) (h2 : SliceI w a2 outs) (l1 : ins.length ≤ 4096) (l2 : outs.length ≤ 4096) :
    Calls Try.prog 13 #[.slice a1 ins.length c1, .slice a2 outs.length c2] w fun e w' => ∃ p, e = .returned (.tuple #[.pointer (some ⟨p, 0, none⟩), .int .i64 0]) ∧ Tape w' (fun k => w.heap.size ≤ k ∧ k < w'.heap.size) p ins outs ∧ Below w.heap.size w w' := by
  have H1 := Lib.hid h1
  have H2 := Lib.hid h2
  clear h1 h2
  have hd : decide ((4096 : Int) < (ins.length : Int)) = false := by simp; omega
  have hd2 : ¬ (4096 : Int) < (ins.length : Int) := by omega
  have hd3 : decide ((4096 : Int) < (outs.length : Int)) = false := by simp; omega
  have hd4 : ¬ (4096 : Int) < (outs.length : Int) := by omega
  go_enter Try.func13, Try.ntmps13
  go_wp2_with (first
    | (go_at_call 25; refine (clone_any a1 c1 ins _ H1.out (by omega)).mono ?_; rintro e w2 ⟨v, rfl, q1, q2, q3⟩; obtain ⟨a', c', rfl, _⟩ := q1.val; have Q := Lib.hid (And.intro q1 (And.intro q2 q3)); replace H2 := Lib.hid (H2.out.below q3); clear q1 q2 q3 H1)
    | (go_at_call 25; refine (clone_any a2 c2 outs _ H2.out (by omega)).mono ?_; rintro e w3 ⟨v, rfl, q1, q2, q3⟩; obtain ⟨a'', c'', rfl, _⟩ := q1.val; have R := Lib.hid (And.intro q1 (And.intro q2 q3)); clear q1 q2 q3))
  go_ret2
  obtain ⟨q1, q2, q3⟩ := Q.out
  obtain ⟨r1, r2, r3⟩ := R.out
  have HB := below_on q3 r3
  have s1 := q3.size
  have s2 := r3.size
  refine ⟨w3.heap.size, rfl, ⟨_, _, ⟨heap_alloc_new w3 _, (q1.keep fun k hk => r3.block k (q1.lt k hk)).alloc _, r1.alloc _, fun k hk hk' => ?_⟩, ?_, fun k hk => ?_, fun k hk => ?_, fun k hk => hk.2⟩, HB.alloc HB.size _⟩
  · have := q1.lt k hk
    have := r2 k hk'
    omega
  · exact ⟨by omega, by simp⟩
  · have := q1.lt k hk
    have := q2 k hk
    exact ⟨this, by simp; omega⟩
  · have := r1.lt k hk
    have := r2 k hk
    exact ⟨by omega, by simp; omega⟩
def greatB (a b c : Nat) : Bool := decide (5000 < a) || (decide (5000 < b) || decide (60 < c))
theorem great_any (a1 a2 a3 : Option Addr) (n1 n2 n3 c1 c2 c3 : Nat) (w : World) : Calls Try.prog 12 #[.slice a1 n1 c1, .slice a2 n2 c2, .slice a3 n3 c3] w fun e w' => e = .returned (.bool (greatB n1 n2 n3)) ∧ w' = w := by
  by_cases h1 : 5000 < n1
  · have d1 : decide ((5000 : Int) < (n1 : Int)) = true := by simp; omega
    have e1 : (5000 : Int) < (n1 : Int) := by omega
    go_enter Try.func12, Try.ntmps12
    go_wp2
    go_ret
    exact ⟨by simp [greatB, h1], rfl⟩
  have d1 : decide ((5000 : Int) < (n1 : Int)) = false := by simp; omega
  have e1 : ¬ (5000 : Int) < (n1 : Int) := by omega
  by_cases h2 : 5000 < n2
  · have d2 : decide ((5000 : Int) < (n2 : Int)) = true := by simp; omega
    have e2 : (5000 : Int) < (n2 : Int) := by omega
    go_enter Try.func12, Try.ntmps12
    go_wp2
    go_ret
    exact ⟨by simp [greatB, h1, h2], rfl⟩
  have d2 : decide ((5000 : Int) < (n2 : Int)) = false := by simp; omega
  have e2 : ¬ (5000 : Int) < (n2 : Int) := by omega
  by_cases h3 : 60 < n3
  · have d3 : decide ((60 : Int) < (n3 : Int)) = true := by simp; omega
    have e3 : (60 : Int) < (n3 : Int) := by omega
    go_enter Try.func12, Try.ntmps12
    go_wp2
    go_ret
    exact ⟨by simp [greatB, h1, h2, h3], rfl⟩
  have d3 : decide ((60 : Int) < (n3 : Int)) = false := by simp; omega
  have e3 : ¬ (60 : Int) < (n3 : Int) := by omega
  go_enter Try.func12, Try.ntmps12
  go_wp2
  go_ret
  exact ⟨by simp [greatB, h1, h2, h3], rfl⟩
/-- the operation that undoes another one -/
def invK (k : Int) : Int := if k = 1 then 2 else if k = 2 then 1 else if k = 3 then 4 else 3
def invN (k n : Int) : Int := if k = 1 then n else if k = 2 then 0 else if k = 3 then 0 else n
theorem inverse_any (k n r : Int) (w : World) : Calls Try.prog 18 #[.agg #[.int .i64 k, .int .i64 n], .int .i64 r] w fun e w' => e = .returned (.agg #[.int .i64 (invK k), .int .i64 (invN k r)]) ∧ Below w.heap.size w w' := by
  have HB : Hid (Below w.heap.size w ((w.alloc (.cells #[.int .i64 k, .int .i64 n] 37)).alloc (.cells #[.int .i64 0, .int .i64 0] 37))) := Lib.hid (((Below.refl _ _).alloc (Nat.le_refl _) _).alloc (by simp) _)
  by_cases hk1 : k = 1
  · subst hk1
    go_enter Try.func18, Try.ntmps18
    go_wp2
    refine bodyPost_ret (v := .agg #[.int .i64 2, .int .i64 r]) (by simp [results, Try.results18, go_sem]) rfl ?_
    exact ⟨rfl, by first | exact HB.out | exact ((Below.refl _ _).alloc (Nat.le_refl _) _).alloc (by simp) _ | exact (((Below.refl _ _).alloc (Nat.le_refl _) _).alloc (by simp) _).setCell (by simp) _ | exact ((((Below.refl _ _).alloc (Nat.le_refl _) _).alloc (by simp) _).setCell (by simp) _).setCell (by simp) _⟩
  by_cases hk2 : k = 2
  · subst hk2
    go_enter Try.func18, Try.ntmps18
    go_wp2
    refine bodyPost_ret (v := .agg #[.int .i64 1, .int .i64 0]) (by simp [results, Try.results18, go_sem]) rfl ?_
    exact ⟨rfl, by first | exact HB.out | exact ((Below.refl _ _).alloc (Nat.le_refl _) _).alloc (by simp) _ | exact (((Below.refl _ _).alloc (Nat.le_refl _) _).alloc (by simp) _).setCell (by simp) _ | exact ((((Below.refl _ _).alloc (Nat.le_refl _) _).alloc (by simp) _).setCell (by simp) _).setCell (by simp) _⟩
  by_cases hk3 : k = 3
  · subst hk3
    go_enter Try.func18, Try.ntmps18
    go_wp2
    refine bodyPost_ret (v := .agg #[.int .i64 4, .int .i64 0]) (by simp [results, Try.results18, go_sem]) rfl ?_
    exact ⟨rfl, by first | exact HB.out | exact ((Below.refl _ _).alloc (Nat.le_refl _) _).alloc (by simp) _ | exact (((Below.refl _ _).alloc (Nat.le_refl _) _).alloc (by simp) _).setCell (by simp) _ | exact ((((Below.refl _ _).alloc (Nat.le_refl _) _).alloc (by simp) _).setCell (by simp) _).setCell (by simp) _⟩
  have n1 : (k == 1) = false := by simpa using hk1
  have n2 : (k == 2) = false := by simpa using hk2
  have n3 : (k == 3) = false := by simpa using hk3
  have ek : invK k = 3 := by unfold invK; rw [if_neg hk1, if_neg hk2, if_neg hk3]
  have en : invN k r = r := by unfold invN; rw [if_neg hk1, if_neg hk2, if_neg hk3]
  rw [ek, en]
  go_enter Try.func18, Try.ntmps18
  go_wp2
  refine bodyPost_ret (v := .agg #[.int .i64 3, .int .i64 r]) (by simp [results, Try.results18, go_sem]) rfl ?_
  exact ⟨rfl, by first | exact HB.out | exact ((Below.refl _ _).alloc (Nat.le_refl _) _).alloc (by simp) _ | exact (((Below.refl _ _).alloc (Nat.le_refl _) _).alloc (by simp) _).setCell (by simp) _ | exact ((((Below.refl _ _).alloc (Nat.le_refl _) _).alloc (by simp) _).setCell (by simp) _).setCell (by simp) _⟩
end Go.Proofs.Ythbeillgpnffmaa
