/- Tokens of any kind and place, at an offset; the contracts of Solid and Join over them. -/
import Derived.Test.YteofoakkgkhjcaaRows
import Derived.WalkKit
import Derived.ProofKit
import Derived.OpenShut
import Derived.Below
import Derived.Lib.Hide
import Derived.WalkSpells
import Derived.WalkLawsBesides
import Derived.Outline
import Derived.Test.YteofoakkgkhjcaaLines
import Derived.Test.YteofoakkgkhjcaaAwake
import Derived.Test.YteofoakkgkhjcaaJoin
import Derived.Test.YteofoakkgkhjcaaSame
import Derived.Deep.AppendLies
namespace Go.Proofs.Yteofoakkgkhjcaa
open Go.ChangeShapes Go.WideShapes Go.ChangeAt Go.RowKit
set_option linter.unusedSimpArgs false
set_option linter.unusedVariables false
/-- a token as it may stand in an argument -/
structure GT where
  k : Int
  t : List UInt8
  p : Int
def cellsG (t : GT) : List Value := [.int .u8 t.k, .string ⟨t.t.toArray⟩, .int .i64 t.p]
def isSolidG (t : GT) : Bool := t.k != 4 && t.k != 5
def solidG (ts : List GT) : List GT := ts.filter isSolidG
def joinG (ts : List GT) : List UInt8 := ts.flatMap (·.t)
/-- the tokens lie in block b from offset o on -/
def ToksG (w : World) (b o : Nat) (l : List GT) : Prop := ∀ (i : Nat) (t : GT), l[i]? = some t →
  w.cell? ⟨b, o + i * 3, none⟩ = some (.int .u8 t.k) ∧ w.cell? ⟨b, o + i * 3 + 1, none⟩ = some (.string ⟨t.t.toArray⟩) ∧ w.cell? ⟨b, o + i * 3 + 2, none⟩ = some (.int .i64 t.p)
/-- a slice of tokens: where it is empty its address may be any -/
def SliceG (w : World) (a : Option Addr) (l : List GT) : Prop := l ≠ [] → ∃ b o, a = some ⟨b, o, none⟩ ∧ b < w.heap.size ∧ ToksG w b o l
theorem ToksG.below {w w' : World} {b o : Nat} {l : List GT} (h : ToksG w b o l) (hg : b < w.heap.size) (hb : Below w.heap.size w w') : ToksG w' b o l := fun i t hi =>
  ⟨(hb.cell (p := ⟨b, o + i * 3, none⟩) hg).trans (h i t hi).1, (hb.cell (p := ⟨b, o + i * 3 + 1, none⟩) hg).trans (h i t hi).2.1, (hb.cell (p := ⟨b, o + i * 3 + 2, none⟩) hg).trans (h i t hi).2.2⟩
theorem SliceG.below {w w' : World} {a : Option Addr} {l : List GT} (h : SliceG w a l) (hb : Below w.heap.size w w') : SliceG w' a l := fun hl => by
  obtain ⟨b, o, rfl, h1, h2⟩ := h hl
  exact ⟨b, o, rfl, Nat.lt_of_lt_of_le h1 hb.size, h2.below h1 hb⟩
theorem flatG_at : ∀ (l : List GT) (i : Nat) (t : GT), l[i]? = some t → (l.flatMap cellsG)[i * 3]? = some (.int .u8 t.k) ∧ (l.flatMap cellsG)[i * 3 + 1]? = some (.string ⟨t.t.toArray⟩) ∧ (l.flatMap cellsG)[i * 3 + 2]? = some (.int .i64 t.p) := by
  intro l
  induction l with
  | nil => intro i t h; simp at h
  | cons x l ih =>
    intro i t h
    rw [List.flatMap_cons]
    have hx : (cellsG x).length = 3 := rfl
    cases i with
    | zero =>
      simp only [List.getElem?_cons_zero, Option.some.injEq] at h
      subst h
      exact ⟨rfl, rfl, rfl⟩
    | succ i =>
      have h2 := ih i t (by simpa using h)
      rw [List.getElem?_append_right (by omega), List.getElem?_append_right (by omega), List.getElem?_append_right (by omega), hx]
      have e0 : (i + 1) * 3 - 3 = i * 3 := by omega
      have e1 : (i + 1) * 3 + 1 - 3 = i * 3 + 1 := by omega
      have e2 : (i + 1) * 3 + 2 - 3 = i * 3 + 2 := by omega
      rw [e0, e1, e2]
      exact h2
/-- what a row of our own holds, as a slice of tokens -/
theorem toksG_of {w : World} {base e : Nat} {v : Value} {l : List GT} (h : w.ownsRow base e 3 v l.length (l.flatMap cellsG)) :
    ∃ a cap, v = .slice a l.length cap ∧ SliceG w a l ∧ (∀ b o, a = some ⟨b, o, none⟩ → o = 0 ∧ base ≤ b) := by
  rcases h.2 with ⟨rfl, hn⟩ | ⟨g, cap, cur, rfl, hbg, hg, h4, h5, h6, h7⟩
  · rw [hn]
    exact ⟨none, 0, rfl, fun hl => absurd (List.length_eq_zero_iff.1 hn) hl, fun b o e => by cases e⟩
  · refine ⟨_, cap, rfl, fun hl => ⟨g, 0, rfl, (Array.getElem?_eq_some_iff.1 hg).1, fun i t hi => ?_⟩, fun b o e => by cases e; exact ⟨rfl, hbg⟩⟩
    have hadd : ∀ j, (⟨g, 0, none⟩ : Addr).add j = ⟨g, j, none⟩ := fun j => by unfold Addr.add; split <;> simp_all
    obtain ⟨h0, h1, h2⟩ := flatG_at l i t hi
    have c := World.ownsRow.cells h (g := g) rfl
    have c0 := c _ _ h0
    have c1 := c _ _ h1
    have c2 := c _ _ h2
    rw [hadd] at c0 c1 c2
    simp only [Nat.zero_add]
    exact ⟨c0, c1, c2⟩
theorem solidG_succ (ts : List GT) (k : Nat) (t : GT) (h : ts[k]? = some t) : solidG (ts.take (k + 1)) = solidG (ts.take k) ++ (if isSolidG t = true then [t] else []) := by
  unfold solidG
  rw [List.take_add_one, h, List.filter_append]
  by_cases hs : isSolidG t = true <;> simp [hs]
theorem solidG_len (ts : List GT) : (solidG ts).length ≤ ts.length := List.length_filter_le _ _
set_option maxRecDepth 100000 in
set_option maxHeartbeats 2000000 in
theorem solid_any (a : Option Addr) (cap : Nat) (l : List GT) (w : World) (h : SliceG w a l) (hn : l.length ≤ 65536) :
    Calls Try.prog 17 #[.slice a l.length cap] w fun e w' => ∃ v, e = .returned v ∧ w'.ownsRow w.heap.size 33 3 v (solidG l).length ((solidG l).flatMap cellsG) ∧ Below w.heap.size w w' := by
  obtain ⟨i0, hi, hz0, hz1, hz2⟩ := info_parts Try.info33
  have HS := Lib.hid h
  clear h
  go_enter Try.func17, Try.ntmps17
  go_wp2
  go_loopw [3, 8] (fun v i wr => ∃ k : Nat, k ≤ l.length ∧ i = .int .i64 k ∧ Hid (wr.ownsRow w.heap.size 33 3 v (solidG (l.take k)).length ((solidG (l.take k)).flatMap cellsG)) ∧ Hid (Below w.heap.size w wr)) (fun _ i _ => l.length - (intOf i).toNat)
  case atStart => exact ⟨0, by omega, rfl, Lib.hid (World.ownsRow_nil _ _ _ _), Lib.hid (Below.refl _ _)⟩
  case round =>
    obtain ⟨k, hk, rfl, HO, HB⟩ := hrel
    by_cases hkl : k < l.length
    · obtain ⟨t, hx⟩ : ∃ t, l[k]? = some t := ⟨_, List.getElem?_eq_getElem hkl⟩
      obtain ⟨b, o, rfl, hlt, ht⟩ := HS.out (fun e => by rw [e] at hkl; simp at hkl)
      obtain ⟨c0, c1, c2⟩ := ht k t hx
      replace c0 := (HB.out.cell (p := ⟨b, o + k * 3, none⟩) hlt).trans c0
      replace c1 := (HB.out.cell (p := ⟨b, o + k * 3 + 1, none⟩) hlt).trans c1
      replace c2 := (HB.out.cell (p := ⟨b, o + k * 3 + 2, none⟩) hlt).trans c2
      have hsz := HB.out.size
      have hst := solidG_succ l k t hx
      have hz : b < wr.heap.size := by omega
      have HX := Lib.hid hx
      have hlen : (solidG (l.take k)).length ≤ 65536 := by
        have := solidG_len (l.take k)
        rw [List.length_take] at this; omega
      have HLEN := Lib.hid hlen
      clear ht hx hlen
      cases b1 : (t.k == 4)
      · have n1 : (t.k != 4) = true := by simpa using b1
        have m1 : ¬ t.k = 4 := by simpa using b1
        cases b2 : (t.k == 5)
        · have n2 : (t.k != 5) = true := by simpa using b2
          have m2 : ¬ t.k = 5 := by simpa using b2
          have hsol : isSolidG t = true := by unfold isSolidG; simp only [bne, b1, b2]; rfl
          rw [if_pos hsol] at hst
          have HST := Lib.hid hst
          clear hst hsol
          go_wp2_with (at_builtin; go_loud (refine wpList_append_own _ rfl _ _ 23 rfl w.heap.size 33 i0 (.agg #[.int .u8 0, .string ⟨#[]⟩, .int .i64 0]) 3 32 Try.underlying23 hi hz0 hz1 hz2 rfl (by decide) _ _ _ rfl ((HO.out.alloc _).alloc _) ⟨_, 0, none⟩ 1 1 (cellsG t) rfl rfl (World.news_of_block (by rw [show wr.heap.size + 1 = (wr.alloc (.cells #[.int .u8 t.k, .string ⟨t.t.toArray⟩, .int .i64 t.p] 33)).heap.size from by simp]; exact heap_alloc_new _ _)) (by intro u hu; simp [cellsG] at hu; rcases hu with rfl | rfl | rfl <;> rfl) (by have := HLEN.out; unfold maxLen; omega) (by have := HLEN.out; omega) (by have := HB.out.size; simp; omega) ?_; intro v' w4 hown' hgrow _; have HGR := Lib.hid (And.intro hown' hgrow); clear hown' hgrow))
          have hb4 := ((HB.out.alloc hsz (.cells #[.int .u8 t.k, .string ⟨t.t.toArray⟩, .int .i64 t.p] 33)).alloc (by simp; omega) _).grown HGR.out.2 (by simp; omega) (fun j hj => by have := (HO.out.lt j hj).1; omega)
          have hown2 := HGR.out.1
          have e1 : (solidG (l.take (k + 1))).length = (solidG (l.take k)).length + 1 := by rw [HST.out]; simp
          have e2 : (solidG (l.take (k + 1))).flatMap cellsG = (solidG (l.take k)).flatMap cellsG ++ cellsG t := by rw [HST.out, List.flatMap_append]; simp
          rw [← e1, ← e2] at hown2
          have HO2 := Lib.hid hown2
          have HB2 := Lib.hid hb4
          clear hown2 hb4 HGR e1 e2 HO HB c0 c1 c2
          go_wp2
          go_roundw
          case rel => exact ⟨k + 1, by omega, by go_num, HO2, HB2⟩
          case measure => simp [intOf]; omega
        · have n2 : (t.k != 5) = false := by simpa using b2
          have m2 : t.k = 5 := by simpa using b2
          have hsol : ¬ isSolidG t = true := by unfold isSolidG; simp only [bne, b1, b2]; decide
          rw [if_neg hsol, List.append_nil] at hst
          have HST := Lib.hid hst
          clear hst hsol
          go_wp2
          go_roundw
          case rel => exact ⟨k + 1, by omega, by go_num, Lib.hid (by rw [HST.out]; exact HO.out.alloc _), Lib.hid (HB.out.alloc hsz _)⟩
          case measure => simp [intOf]; omega
      · have n1 : (t.k != 4) = false := by simpa using b1
        have m1 : t.k = 4 := by simpa using b1
        have hsol : ¬ isSolidG t = true := by unfold isSolidG; simp [bne, b1]
        rw [if_neg hsol, List.append_nil] at hst
        have HST := Lib.hid hst
        clear hst hsol
        go_wp2
        go_roundw
        case rel => exact ⟨k + 1, by omega, by go_num, Lib.hid (by rw [HST.out]; exact HO.out.alloc _), Lib.hid (HB.out.alloc hsz _)⟩
        case measure => simp [intOf]; omega
    · obtain rfl : k = l.length := by omega
      have e : l.take l.length = l := List.take_length
      rw [e] at HO
      go_wp2
      go_ret
      exact ⟨_, rfl, HO.out, HB.out⟩
theorem joinG_take (ts : List GT) (k : Nat) (t : GT) (h : ts[k]? = some t) : joinG (ts.take (k + 1)) = joinG (ts.take k) ++ t.t := by
  unfold joinG
  rw [List.take_add_one, h, List.flatMap_append]
  simp
theorem joinG_take_le (ts : List GT) (k : Nat) : (joinG (ts.take k)).length ≤ (joinG ts).length := by
  unfold joinG
  conv => rhs; rw [← List.take_append_drop k ts]
  rw [List.flatMap_append, List.length_append]; omega
set_option maxHeartbeats 2000000 in
theorem joinG_any (a : Option Addr) (cap : Nat) (ts : List GT) (w : World) (h : SliceG w a ts) (hlen : (joinG ts).length ≤ 65536) (hn : ts.length ≤ 65536) :
    Calls Try.prog 16 #[.slice a ts.length cap] w fun e w' => e = .returned (.string ⟨(joinG ts).toArray⟩) ∧ Below w.heap.size w w' := by
  have HT := Lib.hid h
  have HLEN := Lib.hid hlen
  clear h hlen
  have hstart : Lib.IsBuilder 50 5 w.heap.size w.heap.size (Lib.byteCells (joinG (ts.take 0))) (w.alloc (.cells #[.pointer none, .slice none 0 0] 50)) :=
    .inl ⟨Nat.le_refl _, _, heap_alloc_new w _, World.ownsRow_nil _ _ _ _, fun e => by cases e⟩
  have HS := Lib.hid hstart
  clear hstart
  obtain ⟨b, hb⟩ : ∃ b, b = w.heap.size := ⟨_, rfl⟩
  go_enter Try.func16, Try.ntmps16
  go_wp2_with fail
  go_loopw [8] (fun i wr => ∃ k : Nat, k ≤ ts.length ∧ i = .int .i64 k ∧ Hid (Lib.IsBuilder 50 5 w.heap.size w.heap.size (Lib.byteCells (joinG (ts.take k))) wr) ∧ Hid (Below w.heap.size w wr)) (fun i _ => ts.length - (intOf i).toNat)
  case atStart => exact ⟨0, by omega, rfl, HS, Lib.hid ((Below.refl _ _).alloc (Nat.le_refl _) _)⟩
  case round =>
    clear HS
    obtain ⟨k, hk, rfl, HS, HW⟩ := hrel
    by_cases hkl : k < ts.length
    · obtain ⟨t, hx⟩ : ∃ t, ts[k]? = some t := ⟨_, List.getElem?_eq_getElem hkl⟩
      obtain ⟨g, o, rfl, hg, ht⟩ := HT.out (fun e => by rw [e] at hkl; simp at hkl)
      obtain ⟨c0, c1, c2⟩ := ht k t hx
      replace c0 := (HW.out.cell (p := ⟨g, o + k * 3, none⟩) hg).trans c0
      replace c1 := (HW.out.cell (p := ⟨g, o + k * 3 + 1, none⟩) hg).trans c1
      replace c2 := (HW.out.cell (p := ⟨g, o + k * 3 + 2, none⟩) hg).trans c2
      have hsz := HW.out.size
      have HX := Lib.hid hx
      clear hx ht
      have hz : g < wr.heap.size := by omega
      have hj := joinG_take ts k t HX.out
      have hle := joinG_take_le ts (k + 1)
      have hl2 := HLEN.out
      have hbl : (Lib.byteCells (joinG (ts.take k))).length + (⟨t.t.toArray⟩ : ByteArray).size ≤ 65536 := by
        have e1 : (⟨t.t.toArray⟩ : ByteArray).size = t.t.length := rfl
        have e2 : (Lib.byteCells (joinG (ts.take k))).length = (joinG (ts.take k)).length := by simp [Lib.byteCells]
        rw [hj, List.length_append] at hle
        omega
      have HJ := Lib.hid hj
      have HBL := Lib.hid hbl
      clear hj hle hl2 hbl
      go_wp2_with fail
      refine (write_any w.heap.size w.heap.size (Lib.byteCells (joinG (ts.take k))) ⟨t.t.toArray⟩ _ (bld_alloc HS.out _) (by have := HBL.out; omega) (by simp; omega)).mono ?_
      rintro e w2 ⟨rfl, hbu, hb2⟩
      have HS2 : Hid (Lib.IsBuilder 50 5 w.heap.size w.heap.size (Lib.byteCells (joinG (ts.take (k + 1)))) w2) := Lib.hid (.inr (by
        rw [HJ.out]
        have e : Lib.byteCells (joinG (ts.take k) ++ t.t) = Lib.byteCells (joinG (ts.take k)) ++ Lib.strCells ⟨t.t.toArray⟩ := by
          rw [Lib.strCells_toArray]; simp [Lib.byteCells]
        rw [e]; exact hbu))
      have HW2 : Hid (Below w.heap.size w w2) := Lib.hid ((HW.out.alloc hsz _).trans hb2)
      clear hbu hb2 HS HW c0 c1 c2 hz hsz
      go_wp2
      go_roundw
      case rel => exact ⟨k + 1, by omega, by go_num, HS2, HW2⟩
      case measure => simp [intOf]; omega
    · obtain rfl : k = ts.length := by omega
      have hsz := HW.out.size
      have e : ts.take ts.length = ts := List.take_length
      rw [e] at HS
      go_wp2_with fail
      refine (Try.Builder_String_any w.heap.size w.heap.size (joinG ts) _ HS.out hsz).mono ?_
      rintro e w2 ⟨rfl, hb2⟩
      have HW2 := HW.out.trans hb2
      go_wp2
      go_ret
      exact ⟨rfl, HW2⟩
end Go.Proofs.Yteofoakkgkhjcaa
