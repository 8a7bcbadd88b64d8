/- Contracts: keywords, lists of words, the reference's kinds. -/
import Derived.Test.YteofoakkgkhjcaaRows
import Derived.WalkKit
import Derived.ProofKit
import Derived.OpenShut
import Derived.Below
import Derived.Lib.Hide
import Derived.WalkSpells
import Derived.WalkLawsBesides
import Derived.Outline
import Derived.Test.YteofoakkgkhjcaaSetMap
import Derived.Test.YteofoakkgkhjcaaLines
import Derived.Test.YteofoakkgkhjcaaFirst
import Derived.Great.BuildSlice
import Derived.Lib.Strings
import Derived.Deep.Cut
import Derived.Deep.CutRange
import Derived.Deep.QuietTactic
import Derived.BigQuiet
namespace Go.Proofs.Yteofoakkgkhjcaa
open Go.ChangeShapes Go.WideShapes Go.ChangeAt Go.RowKit
set_option linter.unusedSimpArgs false
set_option linter.unusedVariables false
def keywords : List (List UInt8) := [[105, 110, 116], [97, 114, 114, 97, 121], [115, 116, 97, 99, 107], [112, 114, 111, 99], [109, 97, 105, 110], [112, 117, 115, 104], [112, 111, 112], [114, 101, 97, 100], [117, 110, 114, 101, 97, 100], [119, 114, 105, 116, 101], [117, 110, 119, 114, 105, 116, 101], [99, 97, 108, 108], [117, 110, 99, 97, 108, 108], [105, 102], [101, 108, 115, 101], [102, 105], [102, 114, 111, 109], [108, 111, 111, 112], [117, 110, 116, 105, 108], [108, 111, 99, 97, 108], [100, 101, 108, 111, 99, 97, 108], [116, 111, 112], [115, 105, 122, 101]]
theorem below_on {w0 w w' : World} (h : Below w0.heap.size w0 w) (hb : Below w.heap.size w w') : Below w0.heap.size w0 w' := h.trans (hb.mono h.size)
theorem set_below {w0 w w' : World} {b : Nat} (h : Below w0.heap.size w0 w) (hb : w0.heap.size ≤ b) (hg : w.grownBy w' (some b)) : Below w0.heap.size w0 w' :=
  h.grown hg h.size (fun j hj => by cases hj; exact hb)
theorem kw2 (l : List UInt8) (h : l.length = 2) : l ∈ [[102, 105], [105, 102]] ↔ l ∈ keywords := by
  constructor
  · intro hl
    simp only [List.mem_cons, List.not_mem_nil, or_false] at hl
    rcases hl with rfl | rfl <;> decide
  · intro hl
    simp only [keywords, List.mem_cons, List.not_mem_nil, or_false] at hl
    rcases hl with rfl | rfl | rfl | rfl | rfl | rfl | rfl | rfl | rfl | rfl | rfl | rfl | rfl | rfl | rfl | rfl | rfl | rfl | rfl | rfl | rfl | rfl | rfl <;> first | (exfalso; revert h; decide) | decide
theorem kw3 (l : List UInt8) (h : l.length = 3) : l ∈ [[116, 111, 112], [112, 111, 112], [105, 110, 116]] ↔ l ∈ keywords := by
  constructor
  · intro hl
    simp only [List.mem_cons, List.not_mem_nil, or_false] at hl
    rcases hl with rfl | rfl | rfl <;> decide
  · intro hl
    simp only [keywords, List.mem_cons, List.not_mem_nil, or_false] at hl
    rcases hl with rfl | rfl | rfl | rfl | rfl | rfl | rfl | rfl | rfl | rfl | rfl | rfl | rfl | rfl | rfl | rfl | rfl | rfl | rfl | rfl | rfl | rfl | rfl <;> first | (exfalso; revert h; decide) | decide
theorem kw4 (l : List UInt8) (h : l.length = 4) : l ∈ [[115, 105, 122, 101], [108, 111, 111, 112], [102, 114, 111, 109], [101, 108, 115, 101], [99, 97, 108, 108], [114, 101, 97, 100], [112, 117, 115, 104], [109, 97, 105, 110], [112, 114, 111, 99]] ↔ l ∈ keywords := by
  constructor
  · intro hl
    simp only [List.mem_cons, List.not_mem_nil, or_false] at hl
    rcases hl with rfl | rfl | rfl | rfl | rfl | rfl | rfl | rfl | rfl <;> decide
  · intro hl
    simp only [keywords, List.mem_cons, List.not_mem_nil, or_false] at hl
    rcases hl with rfl | rfl | rfl | rfl | rfl | rfl | rfl | rfl | rfl | rfl | rfl | rfl | rfl | rfl | rfl | rfl | rfl | rfl | rfl | rfl | rfl | rfl | rfl <;> first | (exfalso; revert h; decide) | decide
theorem kw5 (l : List UInt8) (h : l.length = 5) : l ∈ [[108, 111, 99, 97, 108], [117, 110, 116, 105, 108], [119, 114, 105, 116, 101], [115, 116, 97, 99, 107], [97, 114, 114, 97, 121]] ↔ l ∈ keywords := by
  constructor
  · intro hl
    simp only [List.mem_cons, List.not_mem_nil, or_false] at hl
    rcases hl with rfl | rfl | rfl | rfl | rfl <;> decide
  · intro hl
    simp only [keywords, List.mem_cons, List.not_mem_nil, or_false] at hl
    rcases hl with rfl | rfl | rfl | rfl | rfl | rfl | rfl | rfl | rfl | rfl | rfl | rfl | rfl | rfl | rfl | rfl | rfl | rfl | rfl | rfl | rfl | rfl | rfl <;> first | (exfalso; revert h; decide) | decide
theorem kw6 (l : List UInt8) (h : l.length = 6) : l ∈ [[117, 110, 99, 97, 108, 108], [117, 110, 114, 101, 97, 100]] ↔ l ∈ keywords := by
  constructor
  · intro hl
    simp only [List.mem_cons, List.not_mem_nil, or_false] at hl
    rcases hl with rfl | rfl <;> decide
  · intro hl
    simp only [keywords, List.mem_cons, List.not_mem_nil, or_false] at hl
    rcases hl with rfl | rfl | rfl | rfl | rfl | rfl | rfl | rfl | rfl | rfl | rfl | rfl | rfl | rfl | rfl | rfl | rfl | rfl | rfl | rfl | rfl | rfl | rfl <;> first | (exfalso; revert h; decide) | decide
theorem kw7 (l : List UInt8) (h : l.length = 7) : l ∈ [[100, 101, 108, 111, 99, 97, 108], [117, 110, 119, 114, 105, 116, 101]] ↔ l ∈ keywords := by
  constructor
  · intro hl
    simp only [List.mem_cons, List.not_mem_nil, or_false] at hl
    rcases hl with rfl | rfl <;> decide
  · intro hl
    simp only [keywords, List.mem_cons, List.not_mem_nil, or_false] at hl
    rcases hl with rfl | rfl | rfl | rfl | rfl | rfl | rfl | rfl | rfl | rfl | rfl | rfl | rfl | rfl | rfl | rfl | rfl | rfl | rfl | rfl | rfl | rfl | rfl <;> first | (exfalso; revert h; decide) | decide
theorem kw0 (l : List UInt8) (h : l.length < 2 ∨ 7 < l.length) : l ∉ keywords := by
  intro hl
  simp only [keywords, List.mem_cons, List.not_mem_nil, or_false] at hl
  rcases hl with rfl | rfl | rfl | rfl | rfl | rfl | rfl | rfl | rfl | rfl | rfl | rfl | rfl | rfl | rfl | rfl | rfl | rfl | rfl | rfl | rfl | rfl | rfl <;> (revert h; decide)
theorem Try.zero4 (w : World) : (zeroValue 4).run Try.prog w = .ok (.bool false) w := by kernel_rfl
set_option maxHeartbeats 2000000 in
theorem keyword_any (s : ByteArray) (w : World) (hs : s.size ≤ maxLen) : Calls Try.prog 20 #[.string s] w fun e w' => e = .returned (.bool (decide (s.data.toList ∈ keywords))) ∧ Below w.heap.size w w' := by
  have hlen : s.data.toList.length = s.size := rfl
  have HW : Below w.heap.size w w := Below.refl _ _
  by_cases h2 : s.size = 2
  · have HK := Lib.hid (kw2 s.data.toList (by omega))
    clear hlen
    have b2 : ((s.size : Int) == 2) = true := by simp; omega
    clear h2
    have hmm := @run_makeMap Try.prog
    have HS := ownsSet_made w Try.prog 9 4
    replace HW : Below w.heap.size w (w.alloc (.map #[] 0)) := (Below.refl _ _).alloc (Nat.le_refl _) _
    go_enter Try.func20, Try.ntmps20
    go_wp2_with (first | (refine setAdd _ rfl _ _ _ 56 rfl 9 4 Try.underlying9 Try.underlying4 Try.underlying56 w.heap.size _ _ rfl HS (by decide) _ rfl (by decide) rfl ?_; intro w1 h1 hg1; replace HW := set_below HW (Nat.le_refl _) hg1; replace HS := h1; clear h1 hg1) | (refine setHas _ rfl _ _ 56 rfl 9 4 Try.underlying9 Try.underlying4 Try.underlying56 (Try.zero4 _) w.heap.size _ _ rfl HS _ rfl hs ?_))
    go_ret
    refine ⟨?_, HW⟩
    refine congrArg (fun x => Ending.returned (.bool x)) ?_
    rw [Bool.eq_iff_iff]
    simp only [decide_eq_true_eq, ← HK.out, Bool.or_eq_true, List.mem_cons, List.not_mem_nil, or_false]
  by_cases h3 : s.size = 3
  · have HK := Lib.hid (kw3 s.data.toList (by omega))
    clear hlen
    have b2 : ((s.size : Int) == 2) = false := by simp; omega
    have b3 : ((s.size : Int) == 3) = true := by simp; omega
    clear h2 h3
    have hmm := @run_makeMap Try.prog
    have HS := ownsSet_made w Try.prog 9 4
    replace HW : Below w.heap.size w (w.alloc (.map #[] 0)) := (Below.refl _ _).alloc (Nat.le_refl _) _
    go_enter Try.func20, Try.ntmps20
    go_wp2_with (first | (refine setAdd _ rfl _ _ _ 56 rfl 9 4 Try.underlying9 Try.underlying4 Try.underlying56 w.heap.size _ _ rfl HS (by decide) _ rfl (by decide) rfl ?_; intro w1 h1 hg1; replace HW := set_below HW (Nat.le_refl _) hg1; replace HS := h1; clear h1 hg1) | (refine setHas _ rfl _ _ 56 rfl 9 4 Try.underlying9 Try.underlying4 Try.underlying56 (Try.zero4 _) w.heap.size _ _ rfl HS _ rfl hs ?_))
    go_ret
    refine ⟨?_, HW⟩
    refine congrArg (fun x => Ending.returned (.bool x)) ?_
    rw [Bool.eq_iff_iff]
    simp only [decide_eq_true_eq, ← HK.out, Bool.or_eq_true, List.mem_cons, List.not_mem_nil, or_false]
  by_cases h4 : s.size = 4
  · have HK := Lib.hid (kw4 s.data.toList (by omega))
    clear hlen
    have b2 : ((s.size : Int) == 2) = false := by simp; omega
    have b3 : ((s.size : Int) == 3) = false := by simp; omega
    have b4 : ((s.size : Int) == 4) = true := by simp; omega
    clear h2 h3 h4
    have hmm := @run_makeMap Try.prog
    have HS := ownsSet_made w Try.prog 9 4
    replace HW : Below w.heap.size w (w.alloc (.map #[] 0)) := (Below.refl _ _).alloc (Nat.le_refl _) _
    go_enter Try.func20, Try.ntmps20
    go_wp2_with (first | (refine setAdd _ rfl _ _ _ 56 rfl 9 4 Try.underlying9 Try.underlying4 Try.underlying56 w.heap.size _ _ rfl HS (by decide) _ rfl (by decide) rfl ?_; intro w1 h1 hg1; replace HW := set_below HW (Nat.le_refl _) hg1; replace HS := h1; clear h1 hg1) | (refine setHas _ rfl _ _ 56 rfl 9 4 Try.underlying9 Try.underlying4 Try.underlying56 (Try.zero4 _) w.heap.size _ _ rfl HS _ rfl hs ?_))
    go_ret
    refine ⟨?_, HW⟩
    refine congrArg (fun x => Ending.returned (.bool x)) ?_
    rw [Bool.eq_iff_iff]
    simp only [decide_eq_true_eq, ← HK.out, Bool.or_eq_true, List.mem_cons, List.not_mem_nil, or_false]
  by_cases h5 : s.size = 5
  · have HK := Lib.hid (kw5 s.data.toList (by omega))
    clear hlen
    have b2 : ((s.size : Int) == 2) = false := by simp; omega
    have b3 : ((s.size : Int) == 3) = false := by simp; omega
    have b4 : ((s.size : Int) == 4) = false := by simp; omega
    have b5 : ((s.size : Int) == 5) = true := by simp; omega
    clear h2 h3 h4 h5
    have hmm := @run_makeMap Try.prog
    have HS := ownsSet_made w Try.prog 9 4
    replace HW : Below w.heap.size w (w.alloc (.map #[] 0)) := (Below.refl _ _).alloc (Nat.le_refl _) _
    go_enter Try.func20, Try.ntmps20
    go_wp2_with (first | (refine setAdd _ rfl _ _ _ 56 rfl 9 4 Try.underlying9 Try.underlying4 Try.underlying56 w.heap.size _ _ rfl HS (by decide) _ rfl (by decide) rfl ?_; intro w1 h1 hg1; replace HW := set_below HW (Nat.le_refl _) hg1; replace HS := h1; clear h1 hg1) | (refine setHas _ rfl _ _ 56 rfl 9 4 Try.underlying9 Try.underlying4 Try.underlying56 (Try.zero4 _) w.heap.size _ _ rfl HS _ rfl hs ?_))
    go_ret
    refine ⟨?_, HW⟩
    refine congrArg (fun x => Ending.returned (.bool x)) ?_
    rw [Bool.eq_iff_iff]
    simp only [decide_eq_true_eq, ← HK.out, Bool.or_eq_true, List.mem_cons, List.not_mem_nil, or_false]
  by_cases h6 : s.size = 6
  · have HK := Lib.hid (kw6 s.data.toList (by omega))
    clear hlen
    have b2 : ((s.size : Int) == 2) = false := by simp; omega
    have b3 : ((s.size : Int) == 3) = false := by simp; omega
    have b4 : ((s.size : Int) == 4) = false := by simp; omega
    have b5 : ((s.size : Int) == 5) = false := by simp; omega
    have b6 : ((s.size : Int) == 6) = true := by simp; omega
    clear h2 h3 h4 h5 h6
    have hmm := @run_makeMap Try.prog
    have HS := ownsSet_made w Try.prog 9 4
    replace HW : Below w.heap.size w (w.alloc (.map #[] 0)) := (Below.refl _ _).alloc (Nat.le_refl _) _
    go_enter Try.func20, Try.ntmps20
    go_wp2_with (first | (refine setAdd _ rfl _ _ _ 56 rfl 9 4 Try.underlying9 Try.underlying4 Try.underlying56 w.heap.size _ _ rfl HS (by decide) _ rfl (by decide) rfl ?_; intro w1 h1 hg1; replace HW := set_below HW (Nat.le_refl _) hg1; replace HS := h1; clear h1 hg1) | (refine setHas _ rfl _ _ 56 rfl 9 4 Try.underlying9 Try.underlying4 Try.underlying56 (Try.zero4 _) w.heap.size _ _ rfl HS _ rfl hs ?_))
    go_ret
    refine ⟨?_, HW⟩
    refine congrArg (fun x => Ending.returned (.bool x)) ?_
    rw [Bool.eq_iff_iff]
    simp only [decide_eq_true_eq, ← HK.out, Bool.or_eq_true, List.mem_cons, List.not_mem_nil, or_false]
  by_cases h7 : s.size = 7
  · have HK := Lib.hid (kw7 s.data.toList (by omega))
    clear hlen
    have b2 : ((s.size : Int) == 2) = false := by simp; omega
    have b3 : ((s.size : Int) == 3) = false := by simp; omega
    have b4 : ((s.size : Int) == 4) = false := by simp; omega
    have b5 : ((s.size : Int) == 5) = false := by simp; omega
    have b6 : ((s.size : Int) == 6) = false := by simp; omega
    have b7 : ((s.size : Int) == 7) = true := by simp; omega
    clear h2 h3 h4 h5 h6 h7
    have hmm := @run_makeMap Try.prog
    have HS := ownsSet_made w Try.prog 9 4
    replace HW : Below w.heap.size w (w.alloc (.map #[] 0)) := (Below.refl _ _).alloc (Nat.le_refl _) _
    go_enter Try.func20, Try.ntmps20
    go_wp2_with (first | (refine setAdd _ rfl _ _ _ 56 rfl 9 4 Try.underlying9 Try.underlying4 Try.underlying56 w.heap.size _ _ rfl HS (by decide) _ rfl (by decide) rfl ?_; intro w1 h1 hg1; replace HW := set_below HW (Nat.le_refl _) hg1; replace HS := h1; clear h1 hg1) | (refine setHas _ rfl _ _ 56 rfl 9 4 Try.underlying9 Try.underlying4 Try.underlying56 (Try.zero4 _) w.heap.size _ _ rfl HS _ rfl hs ?_))
    go_ret
    refine ⟨?_, HW⟩
    refine congrArg (fun x => Ending.returned (.bool x)) ?_
    rw [Bool.eq_iff_iff]
    simp only [decide_eq_true_eq, ← HK.out, Bool.or_eq_true, List.mem_cons, List.not_mem_nil, or_false]
  have HK := kw0 s.data.toList (by omega)
  have b2 : ((s.size : Int) == 2) = false := by simp; omega
  have b3 : ((s.size : Int) == 3) = false := by simp; omega
  have b4 : ((s.size : Int) == 4) = false := by simp; omega
  have b5 : ((s.size : Int) == 5) = false := by simp; omega
  have b6 : ((s.size : Int) == 6) = false := by simp; omega
  have b7 : ((s.size : Int) == 7) = false := by simp; omega
  clear h2 h3 h4 h5 h6 h7 hlen
  rw [decide_eq_false HK]
  clear HK
  go_enter Try.func20, Try.ntmps20
  go_wp2
  go_ret
  exact ⟨rfl, HW⟩
def Strs (w : World) (g : Nat) (l : List (List UInt8)) : Prop := ∀ (i : Nat) (t : List UInt8), l[i]? = some t → w.cell? ⟨g, i, none⟩ = some (.string ⟨t.toArray⟩)
theorem in_any (g cap : Nat) (l : List (List UInt8)) (s : ByteArray) (w : World) (h : Strs w g l) (hn : l.length ≤ 65536) :
    Calls Try.prog 21 #[.slice (some ⟨g, 0, none⟩) l.length cap, .string s] w fun e w' => e = .returned (.bool (decide (s.data.toList ∈ l))) ∧ w = w' := by
  have HC := Lib.hid h
  clear h
  go_enter Try.func21, Try.ntmps21
  go_wp2
  go_loop [5] (fun i => ∃ k : Nat, k ≤ l.length ∧ i = .int .i64 k ∧ (∀ j, j < k → l[j]? ≠ some s.data.toList)) (fun i => l.length - (intOf i).toNat)
  case atStart => exact ⟨0, by omega, rfl, fun j h => by omega⟩
  case round =>
    obtain ⟨k, hk, rfl, hp⟩ := hrel
    have HP := Lib.hid hp
    clear hp
    by_cases hlt : k < l.length
    · obtain ⟨t, ht⟩ : ∃ t, l[k]? = some t := ⟨_, List.getElem?_eq_getElem hlt⟩
      have hcell := HC.out k t ht
      have HT := Lib.hid ht
      clear ht
      by_cases hx : t = s.data.toList
      · have b1 : ((⟨t.toArray⟩ : ByteArray).toList == s.toList) = true := by rw [Lib.toList_data, Lib.toList_data]; simpa using hx
        have HX := Lib.hid hx
        clear hx
        generalize (⟨t.toArray⟩ : ByteArray) = T at *
        go_wp2
        go_ret
        have hm : s.data.toList ∈ l := HX.out ▸ List.mem_of_getElem? HT.out
        exact ⟨by simp [hm], rfl⟩
      · have b1 : ((⟨t.toArray⟩ : ByteArray).toList == s.toList) = false := by rw [Lib.toList_data, Lib.toList_data]; simpa using hx
        have HX := Lib.hid hx
        clear hx
        generalize (⟨t.toArray⟩ : ByteArray) = T at *
        go_wp2
        go_round
        case rel => exact ⟨k + 1, by omega, by go_num, fun j hj => by
          rcases (by omega : j < k ∨ j = k) with h1 | h1
          · exact HP.out j h1
          · subst h1; rw [HT.out]; intro e; exact HX.out (Option.some.inj e)⟩
        case measure => simp [intOf]; omega
    · obtain rfl : k = l.length := by omega
      have hno : s.data.toList ∉ l := fun hm => by
        obtain ⟨j, hj, e⟩ := List.getElem_of_mem hm
        exact HP.out j hj (by rw [List.getElem?_eq_getElem hj, e])
      go_wp2
      go_ret
      exact ⟨by simp [hno], rfl⟩
theorem lit_at (l : List (List UInt8)) (w : World) (T : TypeId) : Strs (w.alloc (.cells (l.map fun t => Value.string ⟨t.toArray⟩).toArray T)) w.heap.size l := fun i t hi => by
  rw [cell_of_row _ _ _ _ _ (0, 0) (heap_alloc_new w _)]
  simp [hi]
theorem Try.info9 : (Try.prog.info? 9).map (fun i => (i.zero, i.size, i.bytes)) = some (some (.string ⟨#[]⟩), 1, 16) := by kernel_rfl
theorem keywords_any (w : World) : Calls Try.prog 22 #[] w fun e w' => e = .returned (.slice (some ⟨w.heap.size, 0, none⟩) keywords.length keywords.length) ∧ w' = w.alloc (.cells (keywords.map fun t => Value.string ⟨t.toArray⟩).toArray 9) := by
  obtain ⟨i9, h1, h2, h3, _⟩ := info_parts Try.info9
  go_enter Try.func22, Try.ntmps22
  go_wp2_with (refine wpList_buildSlice rfl 40 9 23 _ rfl (keywords.map fun t => Value.string ⟨t.toArray⟩).toArray i9 _ Try.underlying40 h1 h2 (by rw [h3]; decide) (by rw [h3]; decide) (by rw [h3]; kernel_rfl) ?_)
  go_ret
  exact ⟨rfl, rfl⟩
theorem signs_any (w : World) : Calls Try.prog 36 #[] w fun e w' => e = .returned (.slice (some ⟨w.heap.size, 0, none⟩) signs.length signs.length) ∧ w' = w.alloc (.cells (signs.map fun t => Value.string ⟨t.toArray⟩).toArray 9) := by
  obtain ⟨i9, h1, h2, h3, _⟩ := info_parts Try.info9
  go_enter Try.func36, Try.ntmps36
  go_wp2_with (refine wpList_buildSlice rfl 40 9 31 _ rfl (signs.map fun t => Value.string ⟨t.toArray⟩).toArray i9 _ Try.underlying40 h1 h2 (by rw [h3]; decide) (by rw [h3]; decide) (by rw [h3]; kernel_rfl) ?_)
  go_ret
  exact ⟨rfl, rfl⟩
theorem letterR_any (c : Int) (w : World) : Calls Try.prog 34 #[.int .u8 c] w fun e w' => e = .returned (.bool (isL c)) ∧ w = w' := by
  by_cases h1 : 97 ≤ c
  all_goals by_cases h2 : c ≤ 122
  all_goals
    go_enter Try.func34, Try.ntmps34
    go_wp2
    go_ret
    exact ⟨by simp [isL, *], rfl⟩
theorem digitR_any (c : Int) (w : World) : Calls Try.prog 35 #[.int .u8 c] w fun e w' => e = .returned (.bool (isD c)) ∧ w = w' := by
  by_cases h1 : 48 ≤ c
  all_goals by_cases h2 : c ≤ 57
  all_goals
    go_enter Try.func35, Try.ntmps35
    go_wp2
    go_ret
    exact ⟨by simp [isD, *], rfl⟩
end Go.Proofs.Yteofoakkgkhjcaa
