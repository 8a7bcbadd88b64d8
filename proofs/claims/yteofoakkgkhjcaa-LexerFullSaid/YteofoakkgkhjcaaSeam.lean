/- Lex, with its tokens as they stand in slices; when two tokens are one. -/
import Derived.Test.YteofoakkgkhjcaaRows
import Derived.WalkKit
import Derived.ProofKit
import Derived.OpenShut
import Derived.Below
import Derived.Lib.Hide
import Derived.WalkSpells
import Derived.WalkLawsBesides
import Derived.Outline
import Derived.Test.YteofoakkgkhjcaaSolid
import Derived.Test.YteofoakkgkhjcaaPos
import Derived.Laws.StructEq
namespace Go.Proofs.Yteofoakkgkhjcaa
open Go.ChangeShapes Go.WideShapes Go.ChangeAt Go.RowKit
set_option linter.unusedSimpArgs false
set_option linter.unusedVariables false
def toG (t : Tok) : GT := ⟨t.k, t.t, (t.p : Int)⟩
theorem flat_toG (l : List Tok) : (l.map toG).flatMap cellsG = l.flatMap cellsT := by
  rw [List.flatMap_map]; rfl
theorem solid_toG (l : List Tok) : solidG (l.map toG) = (solid l).map toG := by
  unfold solidG solid
  rw [List.filter_map]; rfl
theorem solid_shift (l : List Tok) (n : Nat) : solid (l.map (addp n)) = (solid l).map (addp n) := by
  unfold solid
  rw [List.filter_map]; rfl
theorem lexG_ok (s : ByteArray) (l : List Tok) (w : World) (hs : s.size ≤ 65536) (h : lexR s.data.toList 0 = (l, none)) :
    Calls Try.prog 13 #[.string s] w fun e w' => ∃ a cap, e = .returned (.tuple #[.slice a l.length cap, .int .i64 0, .int .i64 0]) ∧ SliceG w' a (l.map toG) ∧ Below w.heap.size w w' := by
  refine (lex_any s w hs).mono ?_
  rintro e w' (⟨v, _, rfl, hown, hb, _⟩ | ⟨a, h1, _, _⟩)
  · rw [h] at hown
    have hown2 : w'.ownsRow w.heap.size 33 3 v (l.map toG).length ((l.map toG).flatMap cellsG) := by rw [List.length_map, flat_toG]; exact hown
    obtain ⟨a, cap, rfl, h2, _⟩ := toksG_of hown2
    exact ⟨a, cap, by rw [List.length_map], h2, hb⟩
  · rw [h] at h1; cases h1
theorem lex_some (s : ByteArray) (w : World) (hs : s.size ≤ 65536) :
    Calls Try.prog 13 #[.string s] w fun e w' => ∃ v k1 k2, e = .returned (.tuple #[v, .int .i64 k1, .int .i64 k2]) ∧ Below w.heap.size w w' := by
  refine (lex_any s w hs).mono ?_
  rintro e w' (⟨v, _, rfl, hown, hb, _⟩ | ⟨a, h1, rfl, hb⟩)
  · exact ⟨_, _, _, rfl, hb⟩
  · exact ⟨_, _, _, rfl, hb⟩
theorem solidS_any (a : Option Addr) (cap n : Nat) (l : List GT) (w : World) (h : SliceG w a l) (hnn : l.length = n) (hn : n ≤ 65536) :
    Calls Try.prog 17 #[.slice a n cap] w fun e w' => ∃ a' cap', e = .returned (.slice a' (solidG l).length cap') ∧ SliceG w' a' (solidG l) ∧ Below w.heap.size w w' ∧ (∀ b o, a' = some ⟨b, o, none⟩ → o = 0 ∧ w.heap.size ≤ b) := by
  subst hnn
  refine (solid_any a cap l w h hn).mono ?_
  rintro e w' ⟨v, rfl, hown, hb⟩
  obtain ⟨a', cap', rfl, h2, h3⟩ := toksG_of hown
  exact ⟨a', cap', rfl, h2, hb, h3⟩
theorem Try.struct33 : Try.prog.underlying 33 = some (.struct (Try.prog.fieldsOf 33)) := by kernel_rfl
theorem Try.held33 : Try.prog.stoodInHeld 33 = false := by kernel_rfl
theorem Try.guard33 : Try.prog.eqGuardType Try.prog.depth 33 = false := by kernel_rfl
theorem neq_same (k p : Int) (t : ByteArray) (w : World) : Sem.run Try.prog (binOp .neq 33 (.agg #[.int .u8 k, .string t, .int .i64 p]) (.agg #[.int .u8 k, .string t, .int .i64 p])) w = .ok (.bool false) w := by
  have u3 := Try.underlying3
  have u5 := Try.underlying5
  have u9 := Try.underlying9
  have a3 := Try.isAgg3
  have z3 := Try.sizeOf3
  have a5 := Try.isAgg5
  have z5 := Try.sizeOf5
  have a9 := Try.isAgg9
  have z9 := Try.sizeOf9
  rw [run_neq_struct, show (10000 : Nat) = 9999 + 1 from rfl, run_equalIn_agg w 9999 33 _ _ Try.struct33 Try.held33]
  simp only [Program.fieldsOf, Try.underlying33]
  go_simp
theorem pos_le (l : List UInt8) (t : Tok) (h : t ∈ (lexR l 0).1) : t.p ≤ l.length := by
  obtain ⟨i, hi, e⟩ := List.getElem_of_mem h
  have := pos_at l.length l 0 i t (by show (lexR l 0).1[i]? = _; rw [List.getElem?_eq_getElem hi, e])
  obtain ⟨h1, _, h3⟩ := this
  have h4 := h3.length_le
  rw [List.length_append] at h4
  omega
/-- the whole of what LexerLines says, on lists -/
theorem lines_all (a b : List UInt8) (x y : List Tok) (hx : lexR a 0 = (x, none)) (hy : lexR b 0 = (y, none)) :
    ∃ z, lexR (a ++ 10 :: b) 0 = (z, none) ∧ solid z = solid x ++ (solid y).map (addp (a.length + 1)) := by
  rcases lex_lines b a.length a 0 (Nat.le_refl _) with ⟨p, h1, _⟩ | ⟨_, h2, h3⟩
  · rw [hx] at h1; cases h1
  · rw [Nat.zero_add] at h2 h3
    rw [lexR_shift b (a.length + 1), hy] at h2 h3
    simp only [Option.map_none] at h3
    refine ⟨(lexR (a ++ 10 :: b) 0).1, by rw [← h3], ?_⟩
    rw [h2, hx]
    simp only
    rw [solid_shift]
theorem lines_bad1 (a b : List UInt8) (p : Nat) (hx : (lexR a 0).2 = some p) : (lexR (a ++ 10 :: b) 0).2 = some p := by
  rcases lex_lines b a.length a 0 (Nat.le_refl _) with ⟨q, h1, h2⟩ | ⟨h1, _, _⟩
  · rw [hx] at h1; cases h1; exact h2
  · rw [hx] at h1; cases h1
theorem lines_bad2 (a b : List UInt8) (x : List Tok) (q : Nat) (hx : lexR a 0 = (x, none)) (hy : (lexR b 0).2 = some q) : (lexR (a ++ 10 :: b) 0).2 = some (a.length + 1 + q) := by
  rcases lex_lines b a.length a 0 (Nat.le_refl _) with ⟨p, h1, _⟩ | ⟨_, _, h3⟩
  · rw [hx] at h1; cases h1
  · rw [Nat.zero_add] at h3
    rw [lexR_shift b (a.length + 1)] at h3
    simp only [hy, Option.map_some] at h3
    rw [h3]; congr 1; omega
theorem app_data (a b : ByteArray) : ((a ++ (⟨#[10]⟩ : ByteArray)) ++ b).data.toList = a.data.toList ++ 10 :: b.data.toList := by
  simp [ByteArray.data_append]
theorem app_size (a b : ByteArray) : ((a ++ (⟨#[10]⟩ : ByteArray)) ++ b).size = a.size + 1 + b.size := by
  have : ((a ++ (⟨#[10]⟩ : ByteArray)) ++ b).data.toList.length = a.size + 1 + b.size := by
    rw [app_data, List.length_append, List.length_cons]
    show a.size + (b.size + 1) = _
    omega
  exact this
end Go.Proofs.Yteofoakkgkhjcaa
