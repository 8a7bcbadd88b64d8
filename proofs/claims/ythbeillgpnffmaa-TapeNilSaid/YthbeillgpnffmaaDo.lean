/- The functions that the laws call: one operation, a new tape, copies, comparisons. -/
import Derived.Test.YthbeillgpnffmaaRows
import Derived.WalkKit
import Derived.ProofKit
import Derived.OpenShut
import Derived.Below
import Derived.Lib.Hide
import Derived.WalkSpells
import Derived.WalkLawsBesides
import Derived.Outline
import Derived.WalkSmall
import Derived.IntWalk
import Derived.Deep.OwnRows
import Derived.Deep.QuietTactic
import Derived.BigQuiet
import Derived.Test.YthbeillgpnffmaaApp
namespace Go.Proofs.Ythbeillgpnffmaa
open Go.ChangeShapes Go.WideShapes Go.ChangeAt Go.RowKit
set_option linter.unusedSimpArgs false
set_option linter.unusedVariables false

theorem OpPost.from {F : Nat → Prop} {w w1 w' : World} {p : Nat} {ins outs : List Int} {er er' : Int} (h : OpPost F w1 p ins outs er w') (hb : Below w.heap.size w w1) (hF : ∀ k, F k → k < w.heap.size) : OpPost F w p ins outs er' w' :=
  ⟨h.1.mono (fun k hk => by
    rcases hk with h1 | h1
    · exact .inl h1
    · exact .inr ⟨Nat.le_trans hb.size h1.1, h1.2⟩) (grow_lt hF (Nat.le_trans hb.size h.2.size)), (Chg.of_below F hb).trans h.2⟩
theorem Tape.lt {w : World} {F : Nat → Prop} {p : Nat} {ins outs : List Int} (h : Tape w F p ins outs) : ∀ k, F k → k < w.heap.size := by obtain ⟨_, _, _, _, _, _, h8⟩ := h; exact h8
theorem Tape.below {w w' : World} {F : Nat → Prop} {p : Nat} {ins outs : List Int} (h : Tape w F p ins outs) (hb : Below w.heap.size w w') : Tape w' F p ins outs := h.keep hb.size (fun k hk => hb.block k (h.lt k hk))
theorem step_four {k n : Int} {ins outs : List Int} (h1 : ¬ k = 1) (h2 : ¬ k = 2) (h3 : ¬ k = 3) : stepT k n ins outs = stepT 4 n ins outs := by
  unfold stepT
  rw [if_neg h1, if_neg h2, if_neg h3, if_neg (by decide), if_neg (by decide), if_neg (by decide)]
theorem step_num {n : Int} {ins outs : List Int} : (stepT 2 n ins outs).2.2.1 = 0 ∧ (stepT 3 n ins outs).2.2.1 = 0 := by
  constructor
  · unfold stepT; rw [if_neg (by decide), if_pos rfl]; split <;> rfl
  · unfold stepT; rw [if_neg (by decide), if_neg (by decide), if_pos rfl]; split <;> rfl
theorem do_any (F : Nat → Prop) (p : Nat) (k n : Int) (ins outs : List Int) (w : World) (h : Tape w F p ins outs) (hlen : outs.length ≤ 65536) :
    Calls Try.prog 16 #[.pointer (some ⟨p, 0, none⟩), .agg #[.int .i64 k, .int .i64 n]] w fun e w' => e = .returned (.tuple #[.int .i64 (stepT k n ins outs).2.2.1, .int .i64 (stepT k n ins outs).2.2.2]) ∧ OpPost F w p (stepT k n ins outs).1 (stepT k n ins outs).2.1 0 w' := by
  have HB : Hid (Below w.heap.size w (w.alloc (.cells #[.int .i64 k, .int .i64 n] 37))) := Lib.hid ((Below.refl _ _).alloc (Nat.le_refl _) _)
  have HT := Lib.hid (h.below HB.out)
  have HL := Lib.hid h.lt
  clear h
  by_cases hk1 : k = 1
  · subst hk1
    go_enter Try.func16, Try.ntmps16
    go_wp2_with (go_at_call 20; refine (read_any F p ins outs n _ HT.out).mono ?_; rintro e w2 ⟨rfl, hp⟩)
    go_ret2
    exact ⟨rfl, hp.from HB.out HL.out⟩
  by_cases hk2 : k = 2
  · subst hk2
    rw [step_num.1]
    go_enter Try.func16, Try.ntmps16
    go_wp2_with (go_at_call 23; refine (unread_any F p ins outs n _ HT.out).mono ?_; rintro e w2 ⟨rfl, hp⟩)
    go_ret2
    exact ⟨rfl, hp.from HB.out HL.out⟩
  by_cases hk3 : k = 3
  · subst hk3
    rw [step_num.2]
    go_enter Try.func16, Try.ntmps16
    go_wp2_with (go_at_call 21; refine (write_any F p ins outs n _ HT.out).mono ?_; rintro e w2 ⟨rfl, hp⟩)
    go_ret2
    exact ⟨rfl, hp.from HB.out HL.out⟩
  rw [step_four hk1 hk2 hk3]
  have n1 : (k == 1) = false := by simpa using hk1
  have n2 : (k == 2) = false := by simpa using hk2
  have n3 : (k == 3) = false := by simpa using hk3
  go_enter Try.func16, Try.ntmps16
  go_wp2_with (go_at_call 22; refine (unwrite_any F p ins outs n _ HT.out hlen).mono ?_; rintro e w2 ⟨rfl, hp⟩)
  go_ret2
  exact ⟨rfl, hp.from HB.out HL.out⟩
theorem do_nil (k n : Int) (w : World) : Calls Try.prog 16 #[.pointer none, .agg #[.int .i64 k, .int .i64 n]] w fun e w' => e = .returned (.tuple #[.int .i64 0, .int .i64 1]) ∧ Below w.heap.size w w' := by
  have HB : Hid (Below w.heap.size w (w.alloc (.cells #[.int .i64 k, .int .i64 n] 37))) := Lib.hid ((Below.refl _ _).alloc (Nat.le_refl _) _)
  have r0 : ∀ W : World, Calls Try.prog 20 #[.pointer none] W fun e w' => e = .returned (.tuple #[.int .i64 0, .int .i64 1]) ∧ w' = W := fun W => by
    go_enter Try.func20, Try.ntmps20
    go_wp2
    go_ret2
    exact ⟨rfl, rfl⟩
  have r1 : ∀ W : World, Calls Try.prog 22 #[.pointer none] W fun e w' => e = .returned (.tuple #[.int .i64 0, .int .i64 1]) ∧ w' = W := fun W => by
    go_enter Try.func22, Try.ntmps22
    go_wp2
    go_ret2
    exact ⟨rfl, rfl⟩
  have r2 : ∀ (x : Int) (W : World), Calls Try.prog 21 #[.pointer none, .int .i64 x] W fun e w' => e = .returned (.int .i64 1) ∧ w' = W := fun x W => by
    go_enter Try.func21, Try.ntmps21
    go_wp2
    go_ret
    exact ⟨rfl, rfl⟩
  have r3 : ∀ (x : Int) (W : World), Calls Try.prog 23 #[.pointer none, .int .i64 x] W fun e w' => e = .returned (.int .i64 1) ∧ w' = W := fun x W => by
    go_enter Try.func23, Try.ntmps23
    go_wp2
    go_ret
    exact ⟨rfl, rfl⟩
  have R0 := Lib.hid r0
  have R1 := Lib.hid r1
  have R2 := Lib.hid r2
  have R3 := Lib.hid r3
  clear r0 r1 r2 r3
  by_cases hk1 : k = 1
  · subst hk1
    go_enter Try.func16, Try.ntmps16
    go_wp2_with (go_at_call 20; refine (R0.out _).mono ?_; rintro e w2 ⟨rfl, rfl⟩)
    go_ret2
    exact ⟨rfl, HB.out⟩
  by_cases hk2 : k = 2
  · subst hk2
    go_enter Try.func16, Try.ntmps16
    go_wp2_with (go_at_call 23; refine (R3.out _ _).mono ?_; rintro e w2 ⟨rfl, rfl⟩)
    go_ret2
    exact ⟨rfl, HB.out⟩
  by_cases hk3 : k = 3
  · subst hk3
    go_enter Try.func16, Try.ntmps16
    go_wp2_with (go_at_call 21; refine (R2.out _ _).mono ?_; rintro e w2 ⟨rfl, rfl⟩)
    go_ret2
    exact ⟨rfl, HB.out⟩
  have n1 : (k == 1) = false := by simpa using hk1
  have n2 : (k == 2) = false := by simpa using hk2
  have n3 : (k == 3) = false := by simpa using hk3
  go_enter Try.func16, Try.ntmps16
  go_wp2_with (go_at_call 22; refine (R1.out _).mono ?_; rintro e w2 ⟨rfl, rfl⟩)
  go_ret2
  exact ⟨rfl, HB.out⟩
theorem ints_eq (a1 a2 : Option Addr) (c1 c2 : Nat) (zs : List Int) (w : World) (h1 : SliceI w a1 zs) (h2 : SliceI w a2 zs) (hn : zs.length ≤ 65536) :
    Calls Try.prog 24 #[.slice a1 zs.length c1, .slice a2 zs.length c2] w fun e w' => e = .returned (.bool true) ∧ Below w.heap.size w w' := by
  have H1 := Lib.hid h1
  have H2 := Lib.hid h2
  clear h1 h2
  go_enter Try.func24, Try.ntmps24
  go_wp2
  go_loopw [5] (fun i wr => ∃ k : Nat, k ≤ zs.length ∧ i = .int .i64 k ∧ ∃ nd, wr = w.drewN nd) (fun i _ => zs.length - (intOf i).toNat)
  case atStart => exact ⟨0, by omega, rfl, 0, rfl⟩
  case round =>
    obtain ⟨k, hk, rfl, nd, rfl⟩ := hrel
    by_cases hlt : k < zs.length
    · obtain ⟨z, hz⟩ : ∃ z, zs[k]? = some z := ⟨_, List.getElem?_eq_getElem hlt⟩
      obtain ⟨b1, o1, rfl, _, h1⟩ := H1.out (fun e => by rw [e] at hlt; simp at hlt)
      obtain ⟨b2, o2, rfl, _, h2⟩ := H2.out (fun e => by rw [e] at hlt; simp at hlt)
      have d1 := h1 k z hz
      have d2 := h2 k z hz
      clear h1 h2 hz
      have s6 : (k : Int) < (zs.length : Int) := by omega
      go_wp2
      go_quiet (fail)
      go_wp2
      go_roundw
      case rel => exact ⟨k + 1, by omega, by go_num, _, rfl⟩
      case measure => simp [intOf]; omega
    · obtain rfl : k = zs.length := by omega
      go_wp2
      go_ret
      exact ⟨rfl, below_drewN (Below.refl _ _) nd⟩
theorem in_any (F : Nat → Prop) (p : Nat) (ins outs : List Int) (w : World) (h : Tape w F p ins outs) (hl : ins.length ≤ 65536) :
    Calls Try.prog 14 #[.pointer (some ⟨p, 0, none⟩)] w fun e w' => ∃ a c, e = .returned (.slice a ins.length c) ∧ OwnI w' (.slice a ins.length c) ins ∧ (∀ k, blk (.slice a ins.length c) k → w.heap.size ≤ k) ∧ Below w.heap.size w w' := by
  obtain ⟨vin, vout, ht, f1, f2, f3, f4⟩ := h
  have c0 : w.cell? ⟨p, 0, none⟩ = some vin := by rw [cell_of_row w p 0 _ _ _ ht.1]; rfl
  obtain ⟨a, c, rfl, hs, _⟩ := ht.2.1.val
  have HS := Lib.hid hs
  clear ht hs
  go_enter Try.func14, Try.ntmps14
  go_wp2_with (go_at_call 25; refine (clone_any a c ins _ HS.out hl).mono ?_; rintro e w2 ⟨v, rfl, q1, q2, q3⟩; obtain ⟨a', c', rfl, _⟩ := q1.val; have Q := Lib.hid (And.intro q1 (And.intro q2 q3)); clear q1 q2 q3)
  go_ret
  exact ⟨_, _, rfl, Q.out⟩
theorem out_any (F : Nat → Prop) (p : Nat) (ins outs : List Int) (w : World) (h : Tape w F p ins outs) (hl : outs.length ≤ 65536) :
    Calls Try.prog 19 #[.pointer (some ⟨p, 0, none⟩)] w fun e w' => ∃ a c, e = .returned (.slice a outs.length c) ∧ OwnI w' (.slice a outs.length c) outs ∧ (∀ k, blk (.slice a outs.length c) k → w.heap.size ≤ k) ∧ Below w.heap.size w w' := by
  obtain ⟨vin, vout, ht, f1, f2, f3, f4⟩ := h
  have c0 : w.cell? ⟨p, 1, none⟩ = some vout := by rw [cell_of_row w p 1 _ _ _ ht.1]; rfl
  obtain ⟨a, c, rfl, hs, _⟩ := ht.2.2.1.val
  have HS := Lib.hid hs
  clear ht hs
  go_enter Try.func19, Try.ntmps19
  go_wp2_with (go_at_call 25; refine (clone_any a c outs _ HS.out hl).mono ?_; rintro e w2 ⟨v, rfl, q1, q2, q3⟩; obtain ⟨a', c', rfl, _⟩ := q1.val; have Q := Lib.hid (And.intro q1 (And.intro q2 q3)); clear q1 q2 q3)
  go_ret
  exact ⟨_, _, rfl, Q.out⟩
theorem below_on {w0 w w' : World} (h : Below w0.heap.size w0 w) (hb : Below w.heap.size w w') : Below w0.heap.size w0 w' := h.trans (hb.mono h.size)
theorem own_slice {w : World} {a : Option Addr} {n c : Nat} {zs : List Int} (h : OwnI w (.slice a n c) zs) : SliceI w a zs := by
  obtain ⟨a', c', e, hs, _⟩ := h.val
  cases e; exact hs
theorem same_any (F : Nat → Prop) (p : Nat) (ins outs : List Int) (a1 a2 : Option Addr) (c1 c2 : Nat) (w : World) (h : Tape w F p ins outs) (h1 : SliceI w a1 ins) (h2 : SliceI w a2 outs) (hl1 : ins.length ≤ 65536) (hl2 : outs.length ≤ 65536) :
    Calls Try.prog 15 #[.pointer (some ⟨p, 0, none⟩), .slice a1 ins.length c1, .slice a2 outs.length c2] w fun e w' => e = .returned (.bool true) ∧ Below w.heap.size w w' := by
  have HT := Lib.hid h
  have H1 := Lib.hid h1
  have H2 := Lib.hid h2
  have HW : Below w.heap.size w w := Below.refl _ _
  clear h h1 h2
  go_enter Try.func15, Try.ntmps15
  go_wp2_with (first
    | (go_at_call 14; refine (in_any F p ins outs _ HT.out hl1).mono ?_; rintro e w2 ⟨a, c, rfl, q1, q2, hb⟩; have Q1 := Lib.hid (own_slice q1); replace HT := Lib.hid (HT.out.below hb); replace H1 := Lib.hid (H1.out.below hb); replace H2 := Lib.hid (H2.out.below hb); replace HW := below_on HW hb; clear q1 q2 hb)
    | (go_at_call 24; refine (ints_eq _ _ _ _ ins _ Q1.out H1.out hl1).mono ?_; rintro e w3 ⟨rfl, hb⟩; replace HT := Lib.hid (HT.out.below hb); replace H1 := Lib.hid (H1.out.below hb); replace H2 := Lib.hid (H2.out.below hb); replace HW := below_on HW hb; clear hb Q1)
    | (go_at_call 19; refine (out_any F p ins outs _ HT.out hl2).mono ?_; rintro e w2 ⟨a, c, rfl, q1, q2, hb⟩; have Q2 := Lib.hid (own_slice q1); replace HT := Lib.hid (HT.out.below hb); replace H1 := Lib.hid (H1.out.below hb); replace H2 := Lib.hid (H2.out.below hb); replace HW := below_on HW hb; clear q1 q2 hb)
    | (go_at_call 24; refine (ints_eq _ _ _ _ outs _ Q2.out H2.out hl2).mono ?_; rintro e w3 ⟨rfl, hb⟩; replace HW := below_on HW hb; clear hb Q2))
  go_ret
  exact ⟨rfl, HW⟩
end Go.Proofs.Ythbeillgpnffmaa
