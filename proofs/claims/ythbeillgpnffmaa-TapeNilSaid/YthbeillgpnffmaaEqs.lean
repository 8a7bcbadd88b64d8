/- Single steps as equations; a comparison with plain lengths. -/
import Derived.Test.YthbeillgpnffmaaRows
import Derived.WalkKit
import Derived.ProofKit
import Derived.OpenShut
import Derived.Below
import Derived.Lib.Hide
import Derived.WalkSpells
import Derived.WalkLawsBesides
import Derived.Outline
import Derived.WalkSmall
import Derived.IntWalk
import Derived.Deep.OwnRows
import Derived.Deep.QuietTactic
import Derived.BigQuiet
import Derived.Test.YthbeillgpnffmaaSteps
import Derived.Test.YthbeillgpnffmaaRefT
import Derived.SizedLaws
namespace Go.Proofs.Ythbeillgpnffmaa
open Go.ChangeShapes Go.WideShapes Go.ChangeAt Go.RowKit
set_option linter.unusedSimpArgs false
set_option linter.unusedVariables false
theorem Try.bytes3 : Try.prog.bytesOf 3 = 8 := by kernel_rfl
theorem open_intsZ {H : Type} {enc : TypeId × Value → H} {w : World} {base b0 : Nat} {sp : Nat → Bool} {held : Bool} {r : Reach} {v : Value} {d : DataW H} {p : List MemPlace}
    (hv : Value.okWide Try.prog w r b0 22 v) (h : DataW.Trod enc Try.prog w base sp held 22 v d p)
    (hz : ∀ el sp, d = .slice el sp → (el.length + sp.length) * Try.prog.bytesOf 3 ≤ reachBytes) :
    ∃ (a : Option Addr) (n cap : Nat) (l : List Int), v = .slice a n cap ∧ l.length = n ∧ SliceI w a l ∧ n ≤ cap ∧ n < 2 ^ 47 := by
  obtain ⟨a, n, cap, rfl⟩ := okWide_slice Try.underlying22 hv
  obtain ⟨fuel, hf⟩ := h
  rcases Go.Deep.open_slice1 Try.underlying22 (by kernel_rfl) hf with ⟨hcs, _⟩ | ⟨a', len, cap', m, n', V, D, Pl, hcs, hb, hl, hm, hmm, hx, hel⟩
  · simp [Value.cells] at hcs
    obtain ⟨rfl, rfl, rfl⟩ := hcs
    exact ⟨none, 0, 0, [], rfl, rfl, fun e => absurd rfl e, Nat.le_refl _, by decide⟩
  · simp [Value.cells] at hcs
    obtain ⟨rfl, rfl, rfl⟩ := hcs
    have hsz : n < 2 ^ 47 := by
      simp only [Prod.mk.injEq] at hx
      have h1 := hz _ _ hx.1
      rw [Try.bytes3] at h1
      simp only [List.length_map, List.length_range] at h1
      have h2 := reachBytes_lt
      omega
    have hlm : n ≤ m := by rw [hmm]; split <;> omega
    have key : ∀ i, i < n → ∃ z : Int, w.cell? (a'.add i) = some (.int .i64 z) := by
      intro i hi
      obtain ⟨h1, h2⟩ := hel i (by omega)
      obtain ⟨z, e0, _, _⟩ := DataW.trod_int Try.underlying3 h2
      simp only [List.cons.injEq, and_true] at e0
      exact ⟨z, by rw [h1, e0]⟩
    obtain ⟨f, hf⟩ := Go.Deep.choose_lt key
    refine ⟨some a', n, cap, (List.range n).map f, rfl, by simp, fun hne => ?_, hl, hsz⟩
    have hn : 0 < n := by
      rcases Nat.eq_zero_or_pos n with h0 | h0
      · subst h0; exact absurd rfl hne
      · exact h0
    have h0 := hf 0 hn
    rw [add_zero_] at h0
    have ha := addr_of h0
    refine ⟨a'.block, a'.off, by rw [← ha], World.block_lt_of_cell? w _ h0, fun i t hi => ?_⟩
    rw [List.getElem?_map] at hi
    obtain ⟨j, hj, rfl⟩ := Option.map_eq_some_iff.1 hi
    have hj2 : j = i ∧ i < n := by
      rcases Nat.lt_or_ge i n with h1 | h1
      · rw [List.getElem?_range h1] at hj; exact ⟨(Option.some.inj hj).symm, h1⟩
      · rw [List.getElem?_eq_none (by simpa using h1)] at hj; cases hj
    obtain ⟨rfl, hin⟩ := hj2
    have q0 := hf j hin
    rw [ha, Addr.add_lit] at q0
    exact q0

theorem step_r (n z : Int) (zs outs : List Int) : stepT 1 n (z :: zs) outs = (zs, outs, z, 0) := rfl
theorem step_u (n : Int) (ins outs : List Int) (h : ins.length < 4096) : stepT 2 n ins outs = (n :: ins, outs, 0, 0) := by
  unfold stepT; rw [if_neg (by decide), if_pos rfl, if_neg (by omega)]
theorem step_w (n : Int) (ins outs : List Int) (h : outs.length < 4096) : stepT 3 n ins outs = (ins, outs ++ [n], 0, 0) := by
  unfold stepT; rw [if_neg (by decide), if_neg (by decide), if_pos rfl, if_neg (by omega)]
theorem step_uw (n z : Int) (ins outs : List Int) : stepT 4 n ins (outs ++ [z]) = (ins, outs, z, 0) := by
  unfold stepT
  rw [if_neg (by decide), if_neg (by decide), if_neg (by decide)]
  simp
theorem step_ufull (n : Int) (ins outs : List Int) (h : 4096 ≤ ins.length) : stepT 2 n ins outs = (ins, outs, 0, 5) := by
  unfold stepT; rw [if_neg (by decide), if_pos rfl, if_pos h]
theorem step_wfull (n : Int) (ins outs : List Int) (h : 4096 ≤ outs.length) : stepT 3 n ins outs = (ins, outs, 0, 5) := by
  unfold stepT; rw [if_neg (by decide), if_neg (by decide), if_pos rfl, if_pos h]
theorem sameN (w0 w : World) (p n1 n2 : Nat) (ins outs : List Int) (a1 a2 : Option Addr) (c1 c2 : Nat) (h : TapeB w0 w p ins outs) (h1 : SliceI w a1 ins) (h2 : SliceI w a2 outs) (e1 : ins.length = n1) (e2 : outs.length = n2) (hl1 : n1 ≤ 65536) (hl2 : n2 ≤ 65536) :
    Calls Try.prog 15 #[.pointer (some ⟨p, 0, none⟩), .slice a1 n1 c1, .slice a2 n2 c2] w fun e w' => e = .returned (.bool true) ∧ TapeB w0 w' p ins outs ∧ Below w.heap.size w w' := by
  subst e1 e2
  exact sameB w0 w p ins outs a1 a2 c1 c2 h h1 h2 hl1 hl2
theorem newN (w0 : World) (a1 a2 : Option Addr) (n1 n2 c1 c2 : Nat) (ins outs : List Int) (w : World) (hb : Below w0.heap.size w0 w) (h1 : SliceI w a1 ins) (h2 : SliceI w a2 outs) (e1 : ins.length = n1) (e2 : outs.length = n2) (l1 : n1 ≤ 4096) (l2 : n2 ≤ 4096) :
    Calls Try.prog 13 #[.slice a1 n1 c1, .slice a2 n2 c2] w fun e w' => ∃ p, e = .returned (.tuple #[.pointer (some ⟨p, 0, none⟩), .int .i64 0]) ∧ TapeB w0 w' p ins outs ∧ Below w.heap.size w w' := by
  subst e1 e2
  exact newB w0 a1 a2 c1 c2 ins outs w hb h1 h2 l1 l2
theorem inN (w0 w : World) (p n : Nat) (ins outs : List Int) (h : TapeB w0 w p ins outs) (e1 : ins.length = n) (hl : n ≤ 65536) :
    Calls Try.prog 14 #[.pointer (some ⟨p, 0, none⟩)] w fun e w' => ∃ a c, e = .returned (.slice a n c) ∧ SliceI w' a ins ∧ TapeB w0 w' p ins outs ∧ Below w.heap.size w w' := by
  subst e1; exact inB w0 w p ins outs h hl
theorem outN (w0 w : World) (p n : Nat) (ins outs : List Int) (h : TapeB w0 w p ins outs) (e1 : outs.length = n) (hl : n ≤ 65536) :
    Calls Try.prog 19 #[.pointer (some ⟨p, 0, none⟩)] w fun e w' => ∃ a c, e = .returned (.slice a n c) ∧ SliceI w' a outs ∧ TapeB w0 w' p ins outs ∧ Below w.heap.size w w' := by
  subst e1; exact outB w0 w p ins outs h hl
/-- what make lays can be read -/
theorem made_slice (W : World) (n : Nat) : SliceI (W.alloc (.cells (madeCells #[.int .i64 0] n) 3)) (some ⟨W.heap.size, 0, none⟩) (List.replicate n 0) := fun _ => by
  have h := World.rowIs_made W (.int .i64 0) n 3
  refine ⟨W.heap.size, 0, rfl, h.lt, fun i z hi => ?_⟩
  have hi2 : i < n := by have := (List.getElem?_eq_some_iff.1 hi).1; simpa using this
  rw [List.getElem?_replicate, if_pos hi2] at hi
  cases hi
  rw [Nat.zero_add, h.cell hi2]
end Go.Proofs.Ythbeillgpnffmaa
