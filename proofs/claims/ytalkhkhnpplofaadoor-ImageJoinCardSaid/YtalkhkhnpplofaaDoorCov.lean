/- Procedures laid over an image, one by one. -/
import Derived.Test.YtalkhkhnpplofaaDoorRows
import Derived.WalkKit
import Derived.ProofKit
import Derived.OpenShut
import Derived.Below
import Derived.Lib.Hide
import Derived.Outline
import Derived.WalkLawsBesides
import Derived.WalkSpells
import Derived.WalkSmall
import Derived.IntWalk
import Derived.Deep.QuietTactic
import Derived.BigQuiet
import Derived.Deep.RegionHeld3
import Derived.StillTailTactics
import Derived.Handy
import Derived.Deep.Cut
import Derived.Deep.OwnRows
import Derived.Deep.RegionWith
import Derived.Test.YtalkhkhnpplofaaDoorRolB
namespace Go.Proofs.YtalkhkhnpplofaaDoor
open Go.ChangeShapes Go.WideShapes Go.ChangeAt Go.RowKit
set_option linter.unusedSimpArgs false
set_option linter.unusedVariables false

/-- a slice of numbers that lies from block B on -/
def SliceM (w : World) (B : Nat) (a : Option Addr) (ss : List Nat) : Prop := ss ≠ [] → ∃ g, a = some ⟨g, 0, none⟩ ∧ B ≤ g ∧ g < w.heap.size ∧ ∀ (q : Nat) (s : Nat), ss[q]? = some s → w.cell? ⟨g, q, none⟩ = some (.int .i64 (s : Int))
theorem SliceM.below {w w' : World} {B : Nat} {a : Option Addr} {ss : List Nat} (h : SliceM w B a ss) (hb : Below w.heap.size w w') : SliceM w' B a ss := fun hz => by
  obtain ⟨g, rfl, h0, h1, h2⟩ := h hz
  exact ⟨g, rfl, h0, Nat.lt_of_lt_of_le h1 hb.size, fun q s hs => cell_on hb (h2 q s hs)⟩
theorem SliceM.set {w : World} {B b o : Nat} {a : Option Addr} {ss : List Nat} {v : Value} (h : SliceM w B a ss) (hb : b < B) : SliceM (w.setCell ⟨b, o, none⟩ v) B a ss := fun hz => by
  obtain ⟨g, rfl, h0, h1, h2⟩ := h hz
  exact ⟨g, rfl, h0, by simpa using h1, fun q s hs => set_past (by omega) (h2 q s hs)⟩
theorem SliceM.at {w : World} {B : Nat} {a : Option Addr} {ss : List Nat} (h : SliceM w B a ss) {q s : Nat} (hs : ss[q]? = some s) : ∃ g, a = some ⟨g, 0, none⟩ ∧ w.cell? ⟨g, q, none⟩ = some (.int .i64 (s : Int)) := by
  obtain ⟨g, e, _, _, h2⟩ := h (fun e => by subst e; simp at hs)
  exact ⟨g, e, h2 q s hs⟩
theorem own_sliceM {w : World} {B : Nat} {v : Value} {ss : List Nat} (h : w.ownsRow B 3 1 v ss.length (intsV ss)) : ∃ a cap, v = .slice a ss.length cap ∧ SliceM w B a ss := by
  rcases h.2 with ⟨rfl, hn⟩ | ⟨g, cap, cur, rfl, hb, hg, rest⟩
  · have : ss = [] := List.eq_nil_of_length_eq_zero hn
    subst this
    exact ⟨none, 0, rfl, fun e => absurd rfl e⟩
  · refine ⟨_, cap, rfl, fun _ => ⟨g, rfl, (h.lt g rfl).1, (h.lt g rfl).2, fun q s hs => ?_⟩⟩
    have hq : q < ss.length := (List.getElem?_eq_some_iff.1 hs).1
    have hc := h.cellAt q (by omega)
    rw [hc]
    unfold intsV
    rw [List.getElem?_map, hs]; rfl
/-- the image's box and a row of numbers -/
structure NS (w : World) (g n : Nat) (a : Option Addr) (cap : Nat) (m s : Int) (wr : World) (F : Nat → Int) : Prop where
  img : wr.cell? ⟨w.heap.size, 0, none⟩ = some (.slice a n cap) ∧ wr.cell? ⟨w.heap.size, 1, none⟩ = some (.int .i64 m) ∧ wr.cell? ⟨w.heap.size, 2, none⟩ = some (.int .i64 s)
  row : wr.rowIs g 3 n (fun p => .int .i64 (F p))
  bel : Below w.heap.size w wr
  lt : w.heap.size < g
theorem NS.below {w : World} {g n : Nat} {a : Option Addr} {cap : Nat} {m s : Int} {wr w' : World} {F : Nat → Int} (h : NS w g n a cap m s wr F) (hb : Below wr.heap.size wr w') : NS w g n a cap m s w' F :=
  ⟨⟨cell_on hb h.img.1, cell_on hb h.img.2.1, cell_on hb h.img.2.2⟩, h.row.of_block (hb.block g h.row.lt), below_on h.bel hb, h.lt⟩
theorem NS.congr {w : World} {g n : Nat} {a : Option Addr} {cap : Nat} {m s : Int} {wr : World} {F G : Nat → Int} (h : NS w g n a cap m s wr F) (e : ∀ p, p < n → F p = G p) : NS w g n a cap m s wr G := by
  refine ⟨h.img, ?_, h.bel, h.lt⟩
  obtain ⟨cs, h1, h2, h3⟩ := h.row
  exact ⟨cs, h1, h2, fun i hi => by rw [h3 i hi]; show some (Value.int .i64 (F i)) = some (Value.int .i64 (G i)); rw [e i hi]⟩
theorem NS.set {w : World} {g n p : Nat} {a : Option Addr} {cap : Nat} {m s z : Int} {wr : World} {F : Nat → Int} (h : NS w g n a cap m s wr F) (hp : p < n) :
    wr.cell? ⟨g, p, none⟩ = some (.int .i64 (F p)) ∧ wr.frozen? ⟨g, p, none⟩ = false ∧ NS w g n a cap m s (wr.setCell ⟨g, p, none⟩ (.int .i64 z)) (fun j => if j = p then z else F j) := by
  have hl := h.lt
  refine ⟨h.row.cell hp, h.row.frozen p, ⟨set_past (by omega) h.img.1, set_past (by omega) h.img.2.1, set_past (by omega) h.img.2.2⟩, ?_, h.bel.setCell (p := ⟨g, p, none⟩) (by show w.heap.size ≤ g; omega) _, hl⟩
  exact (h.row.set p _).congr fun j _ => by split <;> rfl
def cov (l : List Ins) (p s : Nat) : Bool := opn l p s && decide (s ≤ p)
/-- the procedure that covers p, of the first q -/
def vq (l : List Ins) (n q p : Nat) : Int := match ((pcs l n).take q).find? (cov l p) with | some s => (s : Int) | none => -1
theorem cov_iff {l : List Ins} {p s : Nat} : cov l p s = true ↔ ∃ e, St l s e ∧ s ≤ p ∧ p ≤ e := by
  unfold cov
  rw [Bool.and_eq_true, opn_iff, decide_eq_true_eq]
  constructor
  · rintro ⟨⟨e, h1, h2⟩, h3⟩; exact ⟨e, h1, h3, h2⟩
  · rintro ⟨e, h1, h2, h3⟩; exact ⟨⟨e, h1, h3⟩, h2⟩
theorem pcs_sorted (l : List Ins) (n : Nat) : (pcs l n).Pairwise (· < ·) := (List.pairwise_lt_range).sublist List.filter_sublist
theorem pcs_mem {l : List Ins} {n s : Nat} (h : s ∈ pcs l n) : s < n ∧ (l[s]?).map (·.k) = some 32 := by
  unfold pcs at h
  rw [List.mem_filter] at h
  exact ⟨List.mem_range.1 h.1, by simpa using h.2⟩
theorem pcs_before {l : List Ins} {n q i s t : Nat} (hq : (pcs l n)[q]? = some s) (hi : i < q) (ht : (pcs l n)[i]? = some t) : t < s := by
  have h := pcs_sorted l n
  rw [List.pairwise_iff_getElem] at h
  obtain ⟨h1, rfl⟩ := List.getElem?_eq_some_iff.1 hq
  obtain ⟨h2, rfl⟩ := List.getElem?_eq_some_iff.1 ht
  exact h i q h2 h1 hi
theorem Wd.start {l : List Ins} (h : Wd l) {s : Nat} (hk : (l[s]?).map (·.k) = some 32) : ∃ e, St l s e := by
  cases hx : l[s]? with
  | none => rw [hx] at hk; cases hk
  | some x =>
    have hk2 : x.k = 32 := by rw [hx] at hk; simpa using hk
    obtain ⟨e, he⟩ := h.pair s x hx (by rw [(rol3 _).2 hk2]; decide)
    exact ⟨e, he, hk⟩
/-- nothing covers the next procedure yet -/
theorem vq_free {l : List Ins} (h : Wd l) {n q s e p : Nat} (hq : (pcs l n)[q]? = some s) (he : St l s e) (h1 : s ≤ p) (h2 : p ≤ e) : vq l n q p = -1 := by
  have : ((pcs l n).take q).find? (cov l p) = none := by
    rw [List.find?_eq_none]
    intro t ht hc
    obtain ⟨i, hi⟩ := List.getElem?_of_mem ht
    rw [List.getElem?_take] at hi
    split at hi
    · rename_i hiq
      have hts := pcs_before hq hiq hi
      obtain ⟨e', h3, h4, h5⟩ := cov_iff.1 hc
      have := h.disj _ _ _ _ h3 he hts
      omega
    · cases hi
  unfold vq
  rw [this]
theorem vq_next {l : List Ins} (h : Wd l) {n q s e p : Nat} (hq : (pcs l n)[q]? = some s) (he : St l s e) : (if s ≤ p ∧ p < e + 1 then (s : Int) else vq l n q p) = vq l n (q + 1) p := by
  have ht : (pcs l n).take (q + 1) = (pcs l n).take q ++ [s] := by rw [List.take_add_one, hq]; rfl
  by_cases hc : s ≤ p ∧ p < e + 1
  · rw [if_pos hc]
    have h0 := vq_free h hq he hc.1 (by omega)
    have hcs : cov l p s = true := cov_iff.2 ⟨e, he, hc.1, by omega⟩
    unfold vq at h0 ⊢
    rw [ht, List.find?_append]
    cases hf : ((pcs l n).take q).find? (cov l p) with
    | none => simp [hcs]
    | some t => rw [hf] at h0; simp only at h0; omega
  · rw [if_neg hc]
    have hcs : cov l p s = false := by
      cases hcc : cov l p s
      · rfl
      · obtain ⟨e', h1, h2, h3⟩ := cov_iff.1 hcc
        obtain rfl := he.fun h1
        exact absurd ⟨h2, by omega⟩ hc
    unfold vq
    rw [ht, List.find?_append]
    cases hf : ((pcs l n).take q).find? (cov l p) with
    | none => simp [hcs]
    | some t => simp
theorem vq_zero (l : List Ins) (n p : Nat) : vq l n 0 p = -1 := by unfold vq; simp
theorem vq_jump {l : List Ins} (h : Wd l) {n q i j : Nat} {x : Ins} (hx : l[i]? = some x) (hr : rol x.k = 1 ∨ rol x.k = 2) (hp : PR l i j) : vq l n q i = vq l n q j := by
  have : cov l i = cov l j := by
    funext s
    rw [Bool.eq_iff_iff, cov_iff, cov_iff]
    constructor
    · rintro ⟨e, h1, h2, h3⟩
      have := (h.jumps i j x hx hr hp s e h1).1 ⟨h2, h3⟩
      exact ⟨e, h1, this.1, this.2⟩
    · rintro ⟨e, h1, h2, h3⟩
      have := (h.jumps i j x hx hr hp s e h1).2 ⟨h2, h3⟩
      exact ⟨e, h1, this.1, this.2⟩
  unfold vq
  rw [this]
end Go.Proofs.YtalkhkhnpplofaaDoor
