/- The contract of Join. -/
import Derived.Test.YteofoakkgkhjcaaBuild
import Derived.Test.YteofoakkgkhjcaaShelf
import Derived.Lib.AppendIntMem
import Derived.Lib.Hide
namespace Go.Proofs.Yteofoakkgkhjcaa
open Go.ChangeShapes Go.WideShapes Go.ChangeAt Go.RowKit
set_option linter.unusedSimpArgs false
set_option linter.unusedVariables false
theorem bld_alloc {B b : Nat} {bs : List Value} {w : World} (h : Lib.IsBuilder 50 5 B b bs w) (o : Obj) : Lib.IsBuilder 50 5 B b bs (w.alloc o) := by
  have key : ∀ p, Lib.BuilderAt 50 5 B b p bs w → Lib.BuilderAt 50 5 B b p bs (w.alloc o) := fun p hp => by
    have hlt := hp.lt
    obtain ⟨hB, v, hb, hown, hne⟩ := hp
    exact ⟨hB, v, by rw [Below.heap_alloc _ _ _ hlt]; exact hb, hown.alloc o, hne⟩
  rcases h with h | h
  · exact .inl (key _ h)
  · exact .inr (key _ h)
theorem join_take (ts : List Tok) (k : Nat) (t : Tok) (h : ts[k]? = some t) : join (ts.take (k + 1)) = join (ts.take k) ++ t.t := by
  unfold join
  rw [List.take_add_one, h, List.flatMap_append]
  simp
theorem join_take_le (ts : List Tok) (k : Nat) : (join (ts.take k)).length ≤ (join ts).length := by
  unfold join
  conv => rhs; rw [← List.take_append_drop k ts]
  rw [List.flatMap_append, List.length_append]; omega
set_option maxHeartbeats 2000000 in
theorem join_any (g cap : Nat) (ts : List Tok) (w : World) (ht : Toks w g ts) (hg : g < w.heap.size) (hlen : (join ts).length ≤ 65536) (hn : ts.length ≤ 65536) :
    Calls Try.prog 16 #[.slice (some ⟨g, 0, none⟩) ts.length cap] w fun e w' => e = .returned (.string ⟨(join ts).toArray⟩) ∧ Below w.heap.size w w' := by
  have HT := Lib.hid ht
  have HLEN := Lib.hid hlen
  clear ht hlen
  have hstart : Lib.IsBuilder 50 5 w.heap.size w.heap.size (Lib.byteCells (join (ts.take 0))) (w.alloc (.cells #[.pointer none, .slice none 0 0] 50)) :=
    .inl ⟨Nat.le_refl _, _, heap_alloc_new w _, World.ownsRow_nil _ _ _ _, fun e => by cases e⟩
  have HS := Lib.hid hstart
  clear hstart
  obtain ⟨b, hb⟩ : ∃ b, b = w.heap.size := ⟨_, rfl⟩
  go_enter Try.func16, Try.ntmps16
  go_wp2_with fail
  go_loopw [8] (fun i wr => ∃ k : Nat, k ≤ ts.length ∧ i = .int .i64 k ∧ Hid (Lib.IsBuilder 50 5 w.heap.size w.heap.size (Lib.byteCells (join (ts.take k))) wr) ∧ Hid (Below w.heap.size w wr)) (fun i _ => ts.length - (intOf i).toNat)
  case atStart => exact ⟨0, by omega, rfl, HS, Lib.hid ((Below.refl _ _).alloc (Nat.le_refl _) _)⟩
  case round =>
    clear HS
    obtain ⟨k, hk, rfl, HS, HW⟩ := hrel
    by_cases hkl : k < ts.length
    · obtain ⟨t, hx⟩ : ∃ t, ts[k]? = some t := ⟨_, List.getElem?_eq_getElem hkl⟩
      obtain ⟨c0, c1, c2⟩ := HT.out k t hx
      replace c0 := (HW.out.cell (p := ⟨g, k * 3, none⟩) hg).trans c0
      replace c1 := (HW.out.cell (p := ⟨g, k * 3 + 1, none⟩) hg).trans c1
      replace c2 := (HW.out.cell (p := ⟨g, k * 3 + 2, none⟩) hg).trans c2
      have hsz := HW.out.size
      have HX := Lib.hid hx
      clear hx
      have hz : g < wr.heap.size := by omega
      have hj := join_take ts k t HX.out
      have hle := join_take_le ts (k + 1)
      have hl2 := HLEN.out
      have hbl : (Lib.byteCells (join (ts.take k))).length + (⟨t.t.toArray⟩ : ByteArray).size ≤ 65536 := by
        have e1 : (⟨t.t.toArray⟩ : ByteArray).size = t.t.length := rfl
        have e2 : (Lib.byteCells (join (ts.take k))).length = (join (ts.take k)).length := by simp [Lib.byteCells]
        rw [hj, List.length_append] at hle
        omega
      have HJ := Lib.hid hj
      have HBL := Lib.hid hbl
      clear hj hle hl2 hbl
      go_wp2_with fail
      refine (write_any w.heap.size w.heap.size (Lib.byteCells (join (ts.take k))) ⟨t.t.toArray⟩ _ (bld_alloc HS.out _) (by have := HBL.out; omega) (by simp; omega)).mono ?_
      rintro e w2 ⟨rfl, hbu, hb2⟩
      have HS2 : Hid (Lib.IsBuilder 50 5 w.heap.size w.heap.size (Lib.byteCells (join (ts.take (k + 1)))) w2) := Lib.hid (.inr (by
        rw [HJ.out]
        have e : Lib.byteCells (join (ts.take k) ++ t.t) = Lib.byteCells (join (ts.take k)) ++ Lib.strCells ⟨t.t.toArray⟩ := by
          rw [Lib.strCells_toArray]; simp [Lib.byteCells]
        rw [e]; exact hbu))
      have HW2 : Hid (Below w.heap.size w w2) := Lib.hid ((HW.out.alloc hsz _).trans hb2)
      clear hbu hb2 HS HW c0 c1 c2 hz hsz
      go_wp2
      go_roundw
      case rel => exact ⟨k + 1, by omega, by go_num, HS2, HW2⟩
      case measure => simp [intOf]; omega
    · obtain rfl : k = ts.length := by omega
      have hsz := HW.out.size
      have e : ts.take ts.length = ts := List.take_length
      rw [e] at HS
      go_wp2_with fail
      refine (Try.Builder_String_any w.heap.size w.heap.size (join ts) _ HS.out hsz).mono ?_
      rintro e w2 ⟨rfl, hb2⟩
      have HW2 := HW.out.trans hb2
      go_wp2
      go_ret
      exact ⟨rfl, HW2⟩
end Go.Proofs.Yteofoakkgkhjcaa
