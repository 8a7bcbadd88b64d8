/- The contract of Lex. -/
import Derived.Test.YteofoakkgkhjcaaRows
import Derived.WalkKit
import Derived.ProofKit
import Derived.OpenShut
import Derived.Below
import Derived.Lib.Hide
import Derived.WalkSpells
import Derived.WalkLawsBesides
import Derived.Outline
import Derived.Test.YteofoakkgkhjcaaFirst
import Derived.Test.YteofoakkgkhjcaaModel
namespace Go.Proofs.Yteofoakkgkhjcaa
open Go.ChangeShapes Go.WideShapes Go.ChangeAt Go.RowKit
set_option linter.unusedSimpArgs false
set_option linter.unusedVariables false
def cellsT (t : Tok) : List Value := [.int .u8 t.k, .string ⟨t.t.toArray⟩, .int .i64 (t.p : Int)]
theorem Try.info33 : (Try.prog.info? 33).map (fun i => (i.zero, i.size, i.bytes)) = some (some (.agg #[.int .u8 0, .string ⟨#[]⟩, .int .i64 0]), 3, 32) := by kernel_rfl
/-- what Lex hands back -/
def LexPost (l : List UInt8) (w : World) (e : Ending) (w' : World) : Prop :=
  (∃ v, (lexR l 0).2 = none ∧ e = .returned (.tuple #[v, .int .i64 0, .int .i64 0]) ∧ w'.ownsRow w.heap.size 33 3 v (lexR l 0).1.length ((lexR l 0).1.flatMap cellsT) ∧ Below w.heap.size w w' ∧ ((lexR l 0).1 = [] → v = .slice none 0 0)) ∨
  (∃ at_ : Nat, (lexR l 0).2 = some at_ ∧ e = .returned (.tuple #[.slice none 0 0, .int .i64 (at_ : Int), .int .i64 3]) ∧ Below w.heap.size w w')
/-- the tokens so far and the rest -/
def Sofar (l : List UInt8) (acc : List Tok) (pos : Nat) : Prop := lexR l 0 = (acc ++ (lexR (l.drop pos) pos).1, (lexR (l.drop pos) pos).2)
theorem Sofar.start (l : List UInt8) : Sofar l [] 0 := by unfold Sofar; simp
theorem Sofar.step {l : List UInt8} {acc : List Tok} {pos : Nat} (h : Sofar l acc pos) (hl : l.drop pos ≠ []) (hn : ¬ fstN (l.drop pos) = 0) :
    Sofar l (acc ++ [⟨fstK (l.drop pos), (l.drop pos).take (fstN (l.drop pos)), pos⟩]) (pos + fstN (l.drop pos)) := by
  unfold Sofar at *
  rw [h, lexR_cons hl pos hn, List.drop_drop]
  simp
theorem Sofar.bad {l : List UInt8} {acc : List Tok} {pos : Nat} (h : Sofar l acc pos) (hl : l.drop pos ≠ []) (hn : fstN (l.drop pos) = 0) : (lexR l 0).2 = some pos := by
  unfold Sofar at h
  rw [h, lexR_bad hl pos hn]
theorem Sofar.done {l : List UInt8} {acc : List Tok} {pos : Nat} (h : Sofar l acc pos) (hp : l.length ≤ pos) : lexR l 0 = (acc, none) := by
  unfold Sofar at h
  rw [h, List.drop_eq_nil_of_le hp, lexR_nil]
  simp
theorem ext_data (s : ByteArray) (a : Nat) : (s.extract a s.size).data.toList = s.data.toList.drop a := by
  rw [Lib.extract_data, List.take_of_length_le]
  rw [List.length_drop]; exact Nat.le_refl _
theorem ext_take (s : ByteArray) (a n : Nat) : s.extract a (a + n) = ⟨((s.data.toList.drop a).take n).toArray⟩ := by
  apply WideShapes.bytes_inj
  rw [Lib.extract_data]
  simp
set_option maxHeartbeats 4000000 in
theorem lex_any (s : ByteArray) (w : World) (hs : s.size ≤ 65536) : Calls Try.prog 13 #[.string s] w (LexPost s.data.toList w) := by
  obtain ⟨i0, hi, hz0, hz1, hz2⟩ := info_parts Try.info33
  have hlen : s.data.toList.length = s.size := rfl
  have HLEN := Lib.hid hlen
  clear hlen
  go_enter Try.func13, Try.ntmps13
  go_wp2
  go_loopw [5, 6] (fun v i wr => ∃ (pos : Nat) (acc : List Tok), pos ≤ s.size ∧ i = .int .i64 pos ∧ wr.ownsRow w.heap.size 33 3 v acc.length (acc.flatMap cellsT) ∧ acc.length ≤ pos ∧ Below w.heap.size w wr ∧ Sofar s.data.toList acc pos ∧ (acc = [] → v = .slice none 0 0)) (fun _ i _ => s.size - (intOf i).toNat)
  case atStart => exact ⟨0, [], by omega, rfl, World.ownsRow_nil _ _ _ _, by simp, Below.refl _ _, Sofar.start _, fun _ => rfl⟩
  case round =>
    obtain ⟨pos, acc, hpos, rfl, hown, hacc, hb, HS, hnil⟩ := hrel
    have HNIL := Lib.hid hnil
    clear hnil
    have HACC := Lib.hid hacc
    by_cases hlt : pos < s.size
    · have hne : s.data.toList.drop pos ≠ [] := fun e => by
        have := congrArg List.length e
        rw [List.length_drop, HLEN.out] at this
        simp at this; omega
      have hNle := fstN_le _ hne
      rw [List.length_drop, HLEN.out] at hNle
      have HE := Lib.hid (ext_data s pos)
      have hsz : (s.extract pos s.size).size = s.size - pos := by
        show (s.extract pos s.size).data.toList.length = _
        rw [ext_data, List.length_drop]; rfl
      have HSZ := Lib.hid hsz
      have b1 : (s.extract pos s.size).size ≤ 65536 := by omega
      have b2 : 0 < (s.extract pos s.size).size := by omega
      have HB1 := Lib.hid b1
      have HB2 := Lib.hid b2
      clear hsz b1 b2
      obtain ⟨n, hn⟩ : ∃ n, n = fstN (s.data.toList.drop pos) := ⟨_, rfl⟩
      rw [← hn] at hNle
      have HN := Lib.hid hn
      by_cases h0 : n = 0
      · have HP := Lib.hid (HS.bad hne (by rw [← hn]; exact h0))
        clear hne hn
        go_wp2_with (go_at_call 23; refine (first_any _ _ HB1.out HB2.out).mono ?_; rintro e w' ⟨rfl, rfl⟩; rw [HE.out, ← HN.out])
        go_ret3
        exact .inr ⟨pos, HP.out, rfl, hb⟩
      · have HST := Lib.hid (HS.step hne (by rw [← hn]; exact h0))
        have HT := Lib.hid (ext_take s pos n)
        have HNL := Lib.hid hNle
        clear hn hne
        go_wp2_with (first | (go_at_call 23; refine (first_any _ _ HB1.out HB2.out).mono ?_; rintro e w' ⟨rfl, rfl⟩; rw [HE.out, ← HN.out]) | (at_builtin; refine wpList_append_own _ rfl _ _ 23 rfl w.heap.size 33 i0 (.agg #[.int .u8 0, .string ⟨#[]⟩, .int .i64 0]) 3 32 Try.underlying23 hi hz0 hz1 hz2 rfl (by decide) _ _ _ rfl (hown.alloc _) ⟨wr.heap.size, 0, none⟩ 1 1 [.int .u8 (fstK (s.data.toList.drop pos)), .string (s.extract pos (pos + n)), .int .i64 (pos : Int)] rfl rfl ?c1 ?c2 ?c3 ?c4 ?c5 ?_))
        case c1 =>
          intro j u hj
          match j, hj with
          | 0, hj => simp at hj; subst hj; simp [Addr.add]
          | 1, hj => simp at hj; subst hj; simp [Addr.add]
          | 2, hj => simp at hj; subst hj; simp [Addr.add]
        case c2 =>
          intro u hu
          simp at hu
          rcases hu with rfl | rfl | rfl <;> rfl
        case c3 => unfold maxLen; omega
        case c4 => omega
        case c5 => have := hb.size; simp; omega
        intro v' w1 hown' hgrow _
        have hb2 : Below w.heap.size w w1 := (hb.alloc (by have := hb.size; omega) _).grown hgrow (by have := hb.size; simp; omega) (fun j hj => by have := (hown.lt j hj).1; omega)
        have hown2 : w1.ownsRow w.heap.size 33 3 v' (acc ++ [(⟨fstK (s.data.toList.drop pos), (s.data.toList.drop pos).take n, pos⟩ : Tok)]).length ((acc ++ [(⟨fstK (s.data.toList.drop pos), (s.data.toList.drop pos).take n, pos⟩ : Tok)]).flatMap cellsT) := by
          rw [List.flatMap_append, List.length_append]
          rw [HT.out] at hown'
          simpa [cellsT] using hown'
        have HO := Lib.hid hown2
        clear hown' hown2 hgrow hown hb hi hz0 hz1 hz2
        go_wp2
        go_roundw
        case rel => exact ⟨pos + n, _, by have := HNL.out; omega, by go_num, HO.out, by rw [List.length_append]; simp; omega, hb2, by rw [← HN.out] at HST; exact HST, fun h => by simp at h⟩
        case measure => simp [intOf]; omega
    · have HD := Lib.hid (HS.done (by rw [HLEN.out]; omega))
      have HO := Lib.hid hown
      clear hown
      go_wp2
      go_ret3
      exact .inl ⟨_, by rw [HD.out], rfl, by rw [HD.out]; exact HO.out, hb, by rw [HD.out]; exact HNIL.out⟩
end Go.Proofs.Yteofoakkgkhjcaa
