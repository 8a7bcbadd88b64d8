/- The contract of the function that lists the binary operators: a new slice of the numbers 8 to 23. -/
import Derived.Test.YtbelacajpbmhdaaRows
import Derived.WalkKit
import Derived.ProofKit
import Derived.Deep.AppendLies
import Derived.Outline
namespace Go.Proofs.Ytbelacajpbmhdaa
open Go.ChangeShapes Go.WideShapes Go.ChangeAt Go.RowKit
set_option linter.unusedSimpArgs false
def opL (k : Nat) : List Int := (List.range k).map fun (i : Nat) => (8 + (i : Int))
theorem opL_succ (k : Nat) : opL (k + 1) = opL k ++ [(8 + k : Int)] := by simp [opL, List.range_succ]
theorem opL_len (k : Nat) : (opL k).length = k := by simp [opL]
theorem Try.info5 : (Try.prog.info? 5).map (fun i => (i.zero, i.size, i.bytes)) = some (some (.int .u8 0), 1, 1) := by kernel_rfl
set_option maxHeartbeats 800000 in
theorem operators_own (w : World) :
    Calls Try.prog 21 #[] w fun e w' => ∃ v, e = .returned v ∧ w'.ownsRow w.heap.size 5 1 v 16 ((opL 16).map (Value.int .u8)) ∧ Below w.heap.size w w' := by
  obtain ⟨i0, hi, hz0, hz1, hz2⟩ := info_parts Try.info5
  go_enter Try.func21, Try.ntmps21
  go_wp2
  go_loopw [1, 2] (fun v i wr => ∃ k : Nat, k ≤ 16 ∧ i = .int .u8 (8 + k) ∧ wr.ownsRow w.heap.size 5 1 v k ((opL k).map (Value.int .u8)) ∧ Below w.heap.size w wr)
    (fun _ i _ => 24 - (intOf i).toNat)
  case atStart => exact ⟨0, by omega, rfl, World.ownsRow_nil _ _ _ _, Below.refl _ _⟩
  case round =>
    obtain ⟨k, hk, rfl, hown, hb⟩ := hrel
    by_cases hlt : k < 16
    · go_wp2_with (first
        | (at_builtin; refine wpList_append_own _ rfl _ _ 37 rfl w.heap.size 5 i0 (.int .u8 0) 1 1 Try.underlying37 hi hz0 hz1 hz2 rfl (by decide) _ _ _ rfl (hown.alloc _) ⟨wr.heap.size, 0, none⟩ 1 1 [.int .u8 (8 + k)] rfl rfl ?c1 ?c2 ?c3 ?c4 ?c5 ?_))
      case c1 =>
        intro j u hj
        match j, hj with
        | 0, hj => simp at hj; subst hj; simp [Addr.add]
      case c2 => intro u hu; simp at hu; subst hu; rfl
      case c3 => unfold maxLen; omega
      case c4 => omega
      case c5 => have := hb.size; simp; omega
      intro v' w1 hown' hgrow _
      have e1 := opL_succ k
      have hown2 : w1.ownsRow w.heap.size 5 1 v' (k + 1) ((opL (k + 1)).map (Value.int .u8)) := by rw [e1]; simpa using hown'
      have hb2 : Below w.heap.size w w1 := (hb.alloc (by have := hb.size; omega) _).grown hgrow (by have := hb.size; simp; omega) (fun j hj => by have := (hown.lt j hj).1; omega)
      clear hown' hgrow hown hb e1
      go_wp2
      go_roundw
      case rel => exact ⟨k + 1, by omega, by go_num, hown2, hb2⟩
      case measure => simp [intOf]; omega
    · obtain rfl : k = 16 := by omega
      go_wp2
      go_ret
      exact ⟨_, rfl, hown, hb⟩
theorem operators_any (w : World) :
    Calls Try.prog 21 #[] w fun e w' => ∃ g cap, e = .returned (.slice (some ⟨g, 0, none⟩) 16 cap) ∧ w.heap.size ≤ g ∧ (∀ j : Nat, j < 16 → w'.cell? ⟨g, j, none⟩ = some (.int .u8 (8 + j))) ∧ (∀ j : Nat, w'.frozen? ⟨g, j, none⟩ = false) ∧ Below w.heap.size w w' := by
  refine (operators_own w).mono ?_
  rintro e w' ⟨v, rfl, hown, hb⟩
  obtain ⟨hl, (⟨_, h0⟩ | ⟨g, cap, cur, rfl, hg, hblk, hn, hc, hs, ht⟩)⟩ := hown
  · omega
  refine ⟨g, cap, rfl, hg, ?_, ?_, hb⟩
  · intro j hj
    have hx : ((opL 16).map (Value.int .u8))[j]? = some (.int .u8 (8 + j)) := by
      simp [opL, hj]
    have := World.ownsRow.cells ⟨hl, .inr ⟨g, cap, cur, rfl, hg, hblk, hn, hc, hs, ht⟩⟩ (g := g) rfl j _ hx
    have hadd : (⟨g, 0, none⟩ : Addr).add j = ⟨g, j, none⟩ := by unfold Addr.add; split <;> simp_all
    rw [hadd] at this; exact this
  · intro j
    simp [World.frozen?, hblk]
end Go.Proofs.Ytbelacajpbmhdaa
