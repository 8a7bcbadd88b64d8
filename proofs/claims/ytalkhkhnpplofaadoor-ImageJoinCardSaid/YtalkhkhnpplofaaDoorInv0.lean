/- Contracts: Invert. -/
import Derived.Test.YtalkhkhnpplofaaDoorRows
import Derived.WalkKit
import Derived.ProofKit
import Derived.OpenShut
import Derived.Below
import Derived.Lib.Hide
import Derived.Outline
import Derived.WalkLawsBesides
import Derived.WalkSpells
import Derived.WalkSmall
import Derived.IntWalk
import Derived.Deep.QuietTactic
import Derived.BigQuiet
import Derived.Deep.RegionHeld3
import Derived.StillTailTactics
import Derived.Handy
import Derived.Deep.Cut
import Derived.Deep.OwnRows
import Derived.Deep.RegionWith
import Derived.Test.YtalkhkhnpplofaaDoorCheck
import Derived.Test.YtalkhkhnpplofaaDoorRFault
namespace Go.Proofs.YtalkhkhnpplofaaDoor
open Go.ChangeShapes Go.WideShapes Go.ChangeAt Go.RowKit
set_option linter.unusedSimpArgs false
set_option linter.unusedVariables false

/-- the target of an instruction, or the end of the procedure that it calls -/
def invT (l : List Ins) (x : Ins) : Int := if x.k = 30 ∨ x.k = 31 then (part l (tv x.k x.a x.b)).getD 0 else tv x.k x.a x.b
def invI (l : List Ins) (x : Ins) : Ins := ⟨invO x.k, rta x.k x.a ((l.length : Int) - 1 - invT l x), rtb x.k x.b ((l.length : Int) - 1 - invT l x), x.c, x.d⟩
def invL (l : List Ins) : List Ins := (l.map (invI l)).reverse
theorem invL_len (l : List Ins) : (invL l).length = l.length := by simp [invL]
theorem invL_at {l : List Ins} {i : Nat} {x : Ins} (h : l[i]? = some x) : (invL l)[l.length - 1 - i]? = some (invI l x) := by
  have := lt_len h
  unfold invL
  rw [List.getElem?_reverse (by simp; omega), List.getElem?_map, List.length_map, show l.length - 1 - (l.length - 1 - i) = i by omega, h]
  rfl
/-- a valid instruction with a target -/
theorem vld_tv {x : Ins} (h : vld x = true) (ht : tb x.k = true) : 0 ≤ tv x.k x.a x.b ∧ tv x.k x.a x.b ≤ 65535 := by
  by_cases hk : x.k = 30 ∨ x.k = 31
  · obtain ⟨k, a, b, c, d⟩ := x
    have key : chk (opS k) a 0 = true := by
      unfold vld validB at h
      simp only [Bool.and_eq_true] at h
      exact h.2.1
    rcases hk with rfl | rfl
    · have h3 : chk (opS 30) a 0 = decide (0 ≤ a ∧ a ≤ 65535) := rfl
      rw [h3] at key
      exact of_decide_eq_true key
    · have h3 : chk (opS 31) a 0 = decide (0 ≤ a ∧ a ≤ 65535) := rfl
      rw [h3] at key
      exact of_decide_eq_true key
  · refine vld_tgt x h ?_
    intro hr
    unfold rol at hr
    unfold tb tg at ht
    have := of_decide_eq_true ht
    split at hr
    · omega
    · split at hr
      · omega
      · split at hr
        · omega
        · split at hr
          · omega
          · split at this
            · omega
            · split at this
              · omega
              · omega
theorem rta_no {k a x : Int} (h : tb k = false) : rta k a x = a := by
  unfold rta
  rw [if_neg]
  intro e
  unfold tb at h
  have := of_decide_eq_false h
  exact this (.inl e)
theorem rtb_no {k a x : Int} (h : tb k = false) : rtb k a x = a := by
  unfold rtb
  rw [if_neg]
  intro e
  unfold tb at h
  have := of_decide_eq_false h
  exact this (.inr e)
def Ins.cell (x : Ins) (q : Nat) : Value := if q = 0 then .int .u8 x.k else if q = 1 then .int .i64 x.a else if q = 2 then .int .i64 x.b else if q = 3 then .int .i64 x.c else .int .i64 x.d
def zins : Ins := ⟨0, 0, 0, 0, 0⟩
/-- the cells of a row of n instructions whose last k are laid -/
def insF (L : List Ins) (n k p : Nat) : Value := if n ≤ p / 5 + k then (L.getD (p / 5) zins).cell (p % 5) else zins.cell (p % 5)
theorem insF_set (L : List Ins) (n k r : Nat) (y : Ins) (hr : n = r + k + 1) (hy : L[r]? = some y) (p : Nat) :
    (if p = r * 5 + 4 then Value.int .i64 y.d else if p = r * 5 + 3 then .int .i64 y.c else if p = r * 5 + 2 then .int .i64 y.b else if p = r * 5 + 1 then .int .i64 y.a else if p = r * 5 then .int .u8 y.k else insF L n k p) = insF L n (k + 1) p := by
  have hg : L.getD r zins = y := by rw [List.getD_eq_getElem?_getD, hy]; rfl
  unfold insF
  by_cases hp : p / 5 = r
  · have h4 : p % 5 = 0 ∨ p % 5 = 1 ∨ p % 5 = 2 ∨ p % 5 = 3 ∨ p % 5 = 4 := by omega
    rw [if_pos (show n ≤ p / 5 + (k + 1) by omega), hp, hg]
    unfold Ins.cell
    rcases h4 with h | h | h | h | h
    · rw [if_neg (by omega), if_neg (by omega), if_neg (by omega), if_neg (by omega), if_pos (by omega), if_pos h]
    · rw [if_neg (by omega), if_neg (by omega), if_neg (by omega), if_pos (by omega), if_neg (by omega), if_pos h]
    · rw [if_neg (by omega), if_neg (by omega), if_pos (by omega), if_neg (by omega), if_neg (by omega), if_pos h]
    · rw [if_neg (by omega), if_pos (by omega), if_neg (by omega), if_neg (by omega), if_neg (by omega), if_pos h]
    · rw [if_pos (by omega), if_neg (by omega), if_neg (by omega), if_neg (by omega), if_neg (by omega)]
  · rw [if_neg (by omega), if_neg (by omega), if_neg (by omega), if_neg (by omega), if_neg (by omega)]
    by_cases h1 : n ≤ p / 5 + k
    · rw [if_pos h1, if_pos (by omega)]
    · rw [if_neg h1, if_neg (by omega)]
theorem SliceC_row {w : World} {g n : Nat} {L : List Ins} (h : w.rowIs g 39 (n * 5) (insF L n n)) (hL : L.length = n) (hg : g < w.heap.size) : SliceC w (some ⟨g, 0, none⟩) L := fun _ => by
  refine ⟨g, 0, rfl, hg, fun i x hi => ?_⟩
  have hil := lt_len hi
  have hx : L.getD i zins = x := by rw [List.getD_eq_getElem?_getD, hi]; rfl
  have key : ∀ q, q < 5 → w.cell? ⟨g, 0 + i * 5 + q, none⟩ = some (x.cell q) := fun q hq => by
    rw [Nat.zero_add, h.cell (by omega)]
    unfold insF
    rw [if_pos (by omega), show (i * 5 + q) / 5 = i by omega, show (i * 5 + q) % 5 = q by omega, hx]
  exact ⟨key 0 (by omega), key 1 (by omega), key 2 (by omega), key 3 (by omega), key 4 (by omega)⟩
theorem ckE_ok {l : List Ins} {m s : Int} (h : ckE l m s = 0) : rngB m s = false ∧ ∀ i, i < l.length → flt l (regs l) i = 0 := by
  unfold ckE at h
  cases hr : rngB m s
  · rw [hr] at h
    refine ⟨rfl, ?_⟩
    rw [if_neg (by decide)] at h
    cases hf : fb l with
    | none =>
      intro i hi
      unfold fb at hf
      rw [List.find?_eq_none] at hf
      have := hf i (by simpa using hi)
      simpa using this
    | some i =>
      rw [hf] at h
      unfold fb at hf
      have := List.find?_some hf
      simp at this
      exact absurd h this
  · rw [hr, if_pos rfl] at h; omega
theorem ckE_mk {l : List Ins} {m s : Int} (h : rngB m s = false) (h2 : ∀ i, i < l.length → flt l (regs l) i = 0) : ckE l m s = 0 := by
  unfold ckE
  rw [h, if_neg (by decide), fb_none h2]
theorem flt_vld {l : List Ins} {i : Nat} {x : Ins} (hx : l[i]? = some x) (h : flt l (regs l) i = 0) : vld x = true := by
  rw [flt_eq hx] at h
  cases hv : vld x
  · rw [hv, if_pos rfl] at h; omega
  · rfl
/-- what the loop of Invert keeps -/
structure IS (w : World) (ib rb g n : Nat) (a : Option Addr) (cap : Nat) (m s : Int) (wr : World) (F : Nat → Value) : Prop where
  img : wr.cell? ⟨ib, 0, none⟩ = some (.slice a n cap) ∧ wr.cell? ⟨ib, 1, none⟩ = some (.int .i64 m) ∧ wr.cell? ⟨ib, 2, none⟩ = some (.int .i64 s)
  res : wr.cell? ⟨rb, 0, none⟩ = some (.slice none 0 0) ∧ wr.cell? ⟨rb, 1, none⟩ = some (.int .i64 0) ∧ wr.cell? ⟨rb, 2, none⟩ = some (.int .i64 0)
  resf : wr.frozen? ⟨rb, 0, none⟩ = false ∧ wr.frozen? ⟨rb, 1, none⟩ = false ∧ wr.frozen? ⟨rb, 2, none⟩ = false
  row : wr.rowIs g 39 (n * 5) F
  bel : Below w.heap.size w wr
  lt : w.heap.size ≤ ib ∧ ib < rb ∧ rb < g ∧ g < wr.heap.size
theorem IS.below {w : World} {ib rb g n : Nat} {a : Option Addr} {cap : Nat} {m s : Int} {wr w' : World} {F : Nat → Value} (h : IS w ib rb g n a cap m s wr F) (hb : Below wr.heap.size wr w') : IS w ib rb g n a cap m s w' F :=
  ⟨⟨cell_on hb h.img.1, cell_on hb h.img.2.1, cell_on hb h.img.2.2⟩, ⟨cell_on hb h.res.1, cell_on hb h.res.2.1, cell_on hb h.res.2.2⟩, ⟨frozen_on hb h.res.1 h.resf.1, frozen_on hb h.res.2.1 h.resf.2.1, frozen_on hb h.res.2.2 h.resf.2.2⟩, h.row.of_block (hb.block g h.row.lt), below_on h.bel hb, h.lt.1, h.lt.2.1, h.lt.2.2.1, by have := h.lt.2.2.2; have := hb.size; omega⟩
/-- an instruction is laid -/
theorem IS.lay {w : World} {ib rb g n k : Nat} {a : Option Addr} {cap : Nat} {m s : Int} {wr : World} {L : List Ins} {r : Nat} {y : Ins} (h : IS w ib rb g n a cap m s wr (insF L n k)) (hr : n = r + k + 1) (hy : L[r]? = some y) :
    (∃ u0 u1 u2 u3 u4, wr.cell? ⟨g, r * 5, none⟩ = some u0 ∧ wr.cell? ⟨g, r * 5 + 1, none⟩ = some u1 ∧ wr.cell? ⟨g, r * 5 + 2, none⟩ = some u2 ∧ wr.cell? ⟨g, r * 5 + 3, none⟩ = some u3 ∧ wr.cell? ⟨g, r * 5 + 4, none⟩ = some u4) ∧ (∀ o, wr.frozen? ⟨g, o, none⟩ = false) ∧
    IS w ib rb g n a cap m s (((((wr.setCell ⟨g, r * 5, none⟩ (.int .u8 y.k)).setCell ⟨g, r * 5 + 1, none⟩ (.int .i64 y.a)).setCell ⟨g, r * 5 + 2, none⟩ (.int .i64 y.b)).setCell ⟨g, r * 5 + 3, none⟩ (.int .i64 y.c)).setCell ⟨g, r * 5 + 4, none⟩ (.int .i64 y.d)) (insF L n (k + 1)) := by
  have hl := h.lt
  have ci : ∀ (b o : Nat) (v : Value), b ≠ g → wr.cell? ⟨b, o, none⟩ = some v → (((((wr.setCell ⟨g, r * 5, none⟩ (.int .u8 y.k)).setCell ⟨g, r * 5 + 1, none⟩ (.int .i64 y.a)).setCell ⟨g, r * 5 + 2, none⟩ (.int .i64 y.b)).setCell ⟨g, r * 5 + 3, none⟩ (.int .i64 y.c)).setCell ⟨g, r * 5 + 4, none⟩ (.int .i64 y.d)).cell? ⟨b, o, none⟩ = some v := fun b o v hb hc =>
    set_past hb (set_past hb (set_past hb (set_past hb (set_past hb hc))))
  refine ⟨⟨_, _, _, _, _, h.row.cell (by omega), h.row.cell (by omega), h.row.cell (by omega), h.row.cell (by omega), h.row.cell (by omega)⟩, fun o => h.row.frozen o, ?_, ?_, ?_, ?_, ?_, ?_⟩
  · exact ⟨ci _ _ _ (by omega) h.img.1, ci _ _ _ (by omega) h.img.2.1, ci _ _ _ (by omega) h.img.2.2⟩
  · exact ⟨ci _ _ _ (by omega) h.res.1, ci _ _ _ (by omega) h.res.2.1, ci _ _ _ (by omega) h.res.2.2⟩
  · simp only [World.frozen?_setCell]; exact h.resf
  · exact (((((h.row.set (r * 5) _).set (r * 5 + 1) _).set (r * 5 + 2) _).set (r * 5 + 3) _).set (r * 5 + 4) _).congr fun p _ => insF_set L n k r y hr hy p
  · have hg : w.heap.size ≤ g := by omega
    exact ((((h.bel.setCell (p := ⟨g, r * 5, none⟩) hg _).setCell (p := ⟨g, r * 5 + 1, none⟩) hg _).setCell (p := ⟨g, r * 5 + 2, none⟩) hg _).setCell (p := ⟨g, r * 5 + 3, none⟩) hg _).setCell (p := ⟨g, r * 5 + 4, none⟩) hg _
  · simp; omega
theorem Tryd.info39 : (Tryd.prog.info? 39).map (fun i => (i.zero, i.size, i.bytes)) = some (some (.agg #[.int .u8 0, .int .i64 0, .int .i64 0, .int .i64 0, .int .i64 0]), 5, 40) := by kernel_rfl
end Go.Proofs.YtalkhkhnpplofaaDoor
