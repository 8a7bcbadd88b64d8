/- One tape over all that was there; awake. -/
import Derived.Test.YthbeillgpnffmaaRows
import Derived.WalkKit
import Derived.ProofKit
import Derived.OpenShut
import Derived.Below
import Derived.Lib.Hide
import Derived.WalkSpells
import Derived.WalkLawsBesides
import Derived.Outline
import Derived.WalkSmall
import Derived.IntWalk
import Derived.Deep.OwnRows
import Derived.Deep.QuietTactic
import Derived.BigQuiet
import Derived.Test.YthbeillgpnffmaaNew
namespace Go.Proofs.Ythbeillgpnffmaa
open Go.ChangeShapes Go.WideShapes Go.ChangeAt Go.RowKit
set_option linter.unusedSimpArgs false
set_option linter.unusedVariables false

/-- a tape in memory that is new since w0, and nothing older has changed -/
def TapeB (w0 w : World) (p : Nat) (ins outs : List Int) : Prop := ∃ F, Tape w F p ins outs ∧ (∀ k, F k → w0.heap.size ≤ k) ∧ Below w0.heap.size w0 w
theorem TapeB.op {w0 w w' : World} {F : Nat → Prop} {p : Nat} {ins outs : List Int} {er : Int} (hF : ∀ k, F k → w0.heap.size ≤ k) (hb : Below w0.heap.size w0 w) (h : OpPost F w p ins outs er w') : TapeB w0 w' p ins outs :=
  ⟨_, h.1, fun k hk => by
    rcases hk with h1 | h1
    · exact hF k h1
    · exact Nat.le_trans hb.size h1.1, hb.trans (h.2.below hF hb.size)⟩
theorem TapeB.below {w0 w w' : World} {p : Nat} {ins outs : List Int} (h : TapeB w0 w p ins outs) (hb : Below w.heap.size w w') : TapeB w0 w' p ins outs := by
  obtain ⟨F, h1, h2, h3⟩ := h
  exact ⟨F, h1.below hb, h2, below_on h3 hb⟩
theorem TapeB.bel {w0 w : World} {p : Nat} {ins outs : List Int} (h : TapeB w0 w p ins outs) : Below w0.heap.size w0 w := by obtain ⟨F, h1, h2, h3⟩ := h; exact h3
theorem newB (w0 : World) (a1 a2 : Option Addr) (c1 c2 : Nat) (ins outs : List Int) (w : World) (hb : Below w0.heap.size w0 w) (h1 : SliceI w a1 ins) (h2 : SliceI w a2 outs) (l1 : ins.length ≤ 4096) (l2 : outs.length ≤ 4096) :
    Calls Try.prog 13 #[.slice a1 ins.length c1, .slice a2 outs.length c2] w fun e w' => ∃ p, e = .returned (.tuple #[.pointer (some ⟨p, 0, none⟩), .int .i64 0]) ∧ TapeB w0 w' p ins outs ∧ Below w.heap.size w w' := by
  refine (new_ok a1 a2 c1 c2 ins outs w h1 h2 l1 l2).mono ?_
  rintro e w' ⟨p, rfl, ht, hbb⟩
  exact ⟨p, rfl, ⟨_, ht, fun k hk => Nat.le_trans hb.size hk.1, below_on hb hbb⟩, hbb⟩
theorem doB (w0 w : World) (p : Nat) (k n : Int) (ins outs i' o' : List Int) (r e : Int) (h : TapeB w0 w p ins outs) (hlen : outs.length ≤ 65536) (hs : stepT k n ins outs = (i', o', r, e)) :
    Calls Try.prog 16 #[.pointer (some ⟨p, 0, none⟩), .agg #[.int .i64 k, .int .i64 n]] w fun x w' => x = .returned (.tuple #[.int .i64 r, .int .i64 e]) ∧ TapeB w0 w' p i' o' := by
  obtain ⟨F, h1, h2, h3⟩ := h
  refine (do_any F p k n ins outs w h1 hlen).mono ?_
  rintro x w' ⟨rfl, hp⟩
  rw [hs] at hp ⊢
  exact ⟨rfl, TapeB.op h2 h3 hp⟩
theorem readB (w0 w : World) (p : Nat) (ins outs i' o' : List Int) (r e : Int) (h : TapeB w0 w p ins outs) (hs : stepT 1 0 ins outs = (i', o', r, e)) :
    Calls Try.prog 20 #[.pointer (some ⟨p, 0, none⟩)] w fun x w' => x = .returned (.tuple #[.int .i64 r, .int .i64 e]) ∧ TapeB w0 w' p i' o' := by
  obtain ⟨F, h1, h2, h3⟩ := h
  refine (read_any F p ins outs 0 w h1).mono ?_
  rintro x w' ⟨rfl, hp⟩
  rw [hs] at hp ⊢
  exact ⟨rfl, TapeB.op h2 h3 hp⟩
theorem unwriteB (w0 w : World) (p : Nat) (ins outs i' o' : List Int) (r e : Int) (h : TapeB w0 w p ins outs) (hlen : outs.length ≤ 65536) (hs : stepT 4 0 ins outs = (i', o', r, e)) :
    Calls Try.prog 22 #[.pointer (some ⟨p, 0, none⟩)] w fun x w' => x = .returned (.tuple #[.int .i64 r, .int .i64 e]) ∧ TapeB w0 w' p i' o' := by
  obtain ⟨F, h1, h2, h3⟩ := h
  refine (unwrite_any F p ins outs 0 w h1 hlen).mono ?_
  rintro x w' ⟨rfl, hp⟩
  rw [hs] at hp ⊢
  exact ⟨rfl, TapeB.op h2 h3 hp⟩
theorem unreadB (w0 w : World) (p : Nat) (n : Int) (ins outs i' o' : List Int) (r e : Int) (h : TapeB w0 w p ins outs) (hs : stepT 2 n ins outs = (i', o', r, e)) :
    Calls Try.prog 23 #[.pointer (some ⟨p, 0, none⟩), .int .i64 n] w fun x w' => x = .returned (.int .i64 e) ∧ TapeB w0 w' p i' o' := by
  obtain ⟨F, h1, h2, h3⟩ := h
  refine (unread_any F p ins outs n w h1).mono ?_
  rintro x w' ⟨rfl, hp⟩
  rw [hs] at hp ⊢
  exact ⟨rfl, TapeB.op h2 h3 hp⟩
theorem writeB (w0 w : World) (p : Nat) (n : Int) (ins outs i' o' : List Int) (r e : Int) (h : TapeB w0 w p ins outs) (hs : stepT 3 n ins outs = (i', o', r, e)) :
    Calls Try.prog 21 #[.pointer (some ⟨p, 0, none⟩), .int .i64 n] w fun x w' => x = .returned (.int .i64 e) ∧ TapeB w0 w' p i' o' := by
  obtain ⟨F, h1, h2, h3⟩ := h
  refine (write_any F p ins outs n w h1).mono ?_
  rintro x w' ⟨rfl, hp⟩
  rw [hs] at hp ⊢
  exact ⟨rfl, TapeB.op h2 h3 hp⟩
theorem sameB (w0 w : World) (p : Nat) (ins outs : List Int) (a1 a2 : Option Addr) (c1 c2 : Nat) (h : TapeB w0 w p ins outs) (h1 : SliceI w a1 ins) (h2 : SliceI w a2 outs) (hl1 : ins.length ≤ 65536) (hl2 : outs.length ≤ 65536) :
    Calls Try.prog 15 #[.pointer (some ⟨p, 0, none⟩), .slice a1 ins.length c1, .slice a2 outs.length c2] w fun e w' => e = .returned (.bool true) ∧ TapeB w0 w' p ins outs ∧ Below w.heap.size w w' := by
  obtain ⟨F, h3, h4, h5⟩ := id h
  refine (same_any F p ins outs a1 a2 c1 c2 w h3 h1 h2 hl1 hl2).mono ?_
  rintro x w' ⟨rfl, hb⟩
  exact ⟨rfl, h.below hb, hb⟩
theorem inB (w0 w : World) (p : Nat) (ins outs : List Int) (h : TapeB w0 w p ins outs) (hl : ins.length ≤ 65536) :
    Calls Try.prog 14 #[.pointer (some ⟨p, 0, none⟩)] w fun e w' => ∃ a c, e = .returned (.slice a ins.length c) ∧ SliceI w' a ins ∧ TapeB w0 w' p ins outs ∧ Below w.heap.size w w' := by
  obtain ⟨F, h3, h4, h5⟩ := id h
  refine (in_any F p ins outs w h3 hl).mono ?_
  rintro x w' ⟨a, c, rfl, ho, _, hb⟩
  exact ⟨a, c, rfl, own_slice ho, h.below hb, hb⟩
theorem outB (w0 w : World) (p : Nat) (ins outs : List Int) (h : TapeB w0 w p ins outs) (hl : outs.length ≤ 65536) :
    Calls Try.prog 19 #[.pointer (some ⟨p, 0, none⟩)] w fun e w' => ∃ a c, e = .returned (.slice a outs.length c) ∧ SliceI w' a outs ∧ TapeB w0 w' p ins outs ∧ Below w.heap.size w w' := by
  obtain ⟨F, h3, h4, h5⟩ := id h
  refine (out_any F p ins outs w h3 hl).mono ?_
  rintro x w' ⟨a, c, rfl, ho, _, hb⟩
  exact ⟨a, c, rfl, own_slice ho, h.below hb, hb⟩
theorem lit_slice (W : World) (zs : List Int) : SliceI (W.alloc (.cells (zs.map (Value.int .i64)).toArray 3)) (some ⟨W.heap.size, 0, none⟩) zs := fun _ => ⟨W.heap.size, 0, rfl, by simp, fun i z hi => by
  rw [Nat.zero_add, cell_of_row _ _ _ _ _ (0, 0) (heap_alloc_new W _)]
  simp [hi]⟩
set_option maxHeartbeats 1000000 in
theorem awake_any (w : World) : Calls Try.prog 11 #[] w fun e w' => e = .returned (.bool true) ∧ Below w.heap.size w w' := by
  have hB1 : Hid (Below w.heap.size w (w.alloc (.cells #[.int .i64 5, .int .i64 6] 3))) := Lib.hid ((Below.refl _ _).alloc (Nat.le_refl _) _)
  have hS1 : Hid (SliceI (w.alloc (.cells #[.int .i64 5, .int .i64 6] 3)) (some ⟨w.heap.size, 0, none⟩) [5, 6]) := Lib.hid (lit_slice w [5, 6])
  go_enter Try.func11, Try.ntmps11
  go_wp2_with (first
    | (go_at_call 13; refine (newB w _ none 2 0 [5, 6] [] _ hB1.out hS1.out (fun e => absurd rfl e) (by decide) (by decide)).mono ?_; rintro e w1 ⟨p, rfl, ht, -⟩; have HT := Lib.hid ht; clear ht)
    | (go_at_call 20; refine (readB w _ p [5, 6] [] [6] [] 5 0 HT.out rfl).mono ?_; rintro e w2 ⟨rfl, ht⟩; replace HT := Lib.hid ht; clear ht)
    | (go_at_call 23; refine (unreadB w _ p 7 [6] [] [7, 6] [] 0 0 HT.out rfl).mono ?_; rintro e w2 ⟨rfl, ht⟩; replace HT := Lib.hid ht; clear ht)
    | (go_at_call 22; refine (unwriteB w _ p [7, 6] [] [7, 6] [] 0 17 HT.out (by decide) rfl).mono ?_; rintro e w2 ⟨rfl, ht⟩; replace HT := Lib.hid ht; clear ht)
    | (go_at_call 14; refine (inB w _ p [7, 6] [] HT.out (by decide)).mono ?_; rintro e w2 ⟨a, c, rfl, hs, ht, -⟩; replace HT := Lib.hid ht; have HS := Lib.hid (hs.alloc (.cells #[.int .i64 7, .int .i64 6] 3)); have HS2 : Hid (SliceI (w2.alloc (.cells #[.int .i64 7, .int .i64 6] 3)) (some ⟨w2.heap.size, 0, none⟩) [7, 6]) := Lib.hid (lit_slice w2 [7, 6]); have HX := Lib.hid (ht.below ((Below.refl _ _).alloc (Nat.le_refl _) (.cells #[.int .i64 7, .int .i64 6] 3))); clear ht hs)
    | (go_at_call 24; refine (ints_eq _ _ _ _ [7, 6] _ HS.out HS2.out (by decide)).mono ?_; rintro e w3 ⟨rfl, hb⟩; replace HT := Lib.hid (HX.out.below hb); clear hb))
  go_ret
  exact ⟨rfl, HT.out.bel⟩
end Go.Proofs.Ythbeillgpnffmaa
