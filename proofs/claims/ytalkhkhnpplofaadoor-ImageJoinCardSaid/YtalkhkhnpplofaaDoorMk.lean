/- An image made of a copy and of shifted code, in whatever order. -/
import Derived.Test.YtalkhkhnpplofaaDoorRows
import Derived.WalkKit
import Derived.ProofKit
import Derived.OpenShut
import Derived.Below
import Derived.Lib.Hide
import Derived.Outline
import Derived.WalkLawsBesides
import Derived.WalkSpells
import Derived.WalkSmall
import Derived.IntWalk
import Derived.Deep.QuietTactic
import Derived.BigQuiet
import Derived.Deep.RegionHeld3
import Derived.StillTailTactics
import Derived.Handy
import Derived.Deep.Cut
import Derived.Deep.OwnRows
import Derived.Deep.RegionWith
import Derived.Test.YtalkhkhnpplofaaDoorCopy
import Derived.Test.YtalkhkhnpplofaaDoorShift
namespace Go.Proofs.YtalkhkhnpplofaaDoor
open Go.ChangeShapes Go.WideShapes Go.ChangeAt Go.RowKit
set_option linter.unusedSimpArgs false
set_option linter.unusedVariables false

theorem sz_alloc (w : World) (o : Obj) : (w.alloc o).heap.size = w.heap.size + 1 := by simp
theorem sz_drew (w : World) : w.drew.heap.size = w.heap.size := rfl
/-- a box of zeros -/
def ZBox (W : World) (b : Nat) : Prop := W.cell? ⟨b, 0, none⟩ = some (.slice none 0 0) ∧ W.cell? ⟨b, 1, none⟩ = some (.int .i64 0) ∧ W.cell? ⟨b, 2, none⟩ = some (.int .i64 0) ∧ W.frozen? ⟨b, 0, none⟩ = false ∧ W.frozen? ⟨b, 1, none⟩ = false ∧ W.frozen? ⟨b, 2, none⟩ = false ∧ ∃ cs, W.heap[b]? = some (.cells cs 24)
theorem ZBox.far {W W' : World} {b : Nat} (h : ZBox W b) (hk : W'.heap[b]? = W.heap[b]?) : ZBox W' b :=
  ⟨far_cell hk h.1, far_cell hk h.2.1, far_cell hk h.2.2.1, far_froz hk h.2.2.2.1, far_froz hk h.2.2.2.2.1, far_froz hk h.2.2.2.2.2.1, by obtain ⟨cs, hc⟩ := h.2.2.2.2.2.2; exact ⟨cs, hk.trans hc⟩⟩
/-- what the statement has made so far -/
structure St5 (w1 : World) (n : Nat) (l L2 : List Ins) (W : World) (e : Option Nat) (o h : Option (Option Addr × Nat)) (q : Option Nat) : Prop where
  bel : Below w1.heap.size w1 W
  emp : ∀ g, e = some g → w1.heap.size ≤ g ∧ W.heap[g]? = some (.cells #[] 39)
  own : ∀ aa cc, o = some (aa, cc) → OwnI W w1.heap.size (.slice aa n cc) l
  shf : ∀ ab cb, h = some (ab, cb) → SliceC W ab L2
  box : ∀ b, q = some b → w1.heap.size ≤ b ∧ ZBox W b
theorem St5.start (w1 : World) (n : Nat) (l L2 : List Ins) : St5 w1 n l L2 w1 none none none none := ⟨Below.refl _ _, (fun _ h => by cases h), (fun _ _ h => by cases h), (fun _ _ h => by cases h), (fun _ h => by cases h)⟩
theorem St5.drew {w1 : World} {n : Nat} {l L2 : List Ins} {W : World} {e : Option Nat} {o h : Option (Option Addr × Nat)} {q : Option Nat} (t : St5 w1 n l L2 W e o h q) : St5 w1 n l L2 W.drew e o h q := ⟨⟨t.bel.os, t.bel.tape, t.bel.output, t.bel.size, t.bel.block⟩, t.emp, t.own, t.shf, t.box⟩
theorem St5.on {w1 : World} {n : Nat} {l L2 : List Ins} {W : World} {e : Option Nat} {o h : Option (Option Addr × Nat)} {q : Option Nat} {W' : World} (t : St5 w1 n l L2 W e o h q) (hb : Below W.heap.size W W') : St5 w1 n l L2 W' e o h q := by
  refine ⟨below_on t.bel hb, fun g hg => ?_, fun aa cc ho => own_keep (t.own aa cc ho) (fun k hk => hb.block k (World.ownsRow.lt (t.own aa cc ho) k hk).2), fun ab cb hh => (t.shf ab cb hh).below hb, fun b hq => ?_⟩
  · obtain ⟨h1, h2⟩ := t.emp g hg
    have hlt : g < W.heap.size := by
      rcases Nat.lt_or_ge g W.heap.size with h3 | h3
      · exact h3
      · rw [Array.getElem?_eq_none h3] at h2; cases h2
    exact ⟨h1, (hb.block g hlt).trans h2⟩
  · obtain ⟨h1, h2⟩ := t.box b hq
    have hlt := World.block_lt_of_cell? _ _ h2.1
    exact ⟨h1, h2.far (hb.block b hlt)⟩
theorem St5.E {w1 : World} {n : Nat} {l L2 : List Ins} {W : World} {e : Option Nat} {o h : Option (Option Addr × Nat)} {q : Option Nat} (t : St5 w1 n l L2 W e o h q) : St5 w1 n l L2 (W.alloc (.cells #[] 39)) (some W.heap.size) o h q := by
  have t2 := t.on (below_new W (.cells #[] 39))
  refine ⟨t2.bel, fun g hg => ?_, t2.own, t2.shf, t2.box⟩
  cases hg
  exact ⟨t.bel.size, heap_alloc_new W _⟩
theorem St5.B {w1 : World} {n : Nat} {l L2 : List Ins} {W : World} {e : Option Nat} {o h : Option (Option Addr × Nat)} {q : Option Nat} (t : St5 w1 n l L2 W e o h q) : St5 w1 n l L2 (W.alloc (.cells #[.slice none 0 0, .int .i64 0, .int .i64 0] 24)) e o h (some W.heap.size) := by
  have t2 := t.on (below_new W (.cells #[.slice none 0 0, .int .i64 0, .int .i64 0] 24))
  refine ⟨t2.bel, t2.emp, t2.own, t2.shf, fun b hq => ?_⟩
  cases hq
  obtain ⟨⟨b0, b1, b2⟩, hf⟩ := boxN W W.heap.size (.slice none 0 0) (.int .i64 0) (.int .i64 0) rfl
  exact ⟨t.bel.size, b0, b1, b2, hf 0, hf 1, hf 2, _, heap_alloc_new W _⟩
theorem St5.call {w1 : World} {n : Nat} {l L2 : List Ins} {W : World} {e : Option Nat} {o h : Option (Option Addr × Nat)} {q : Option Nat} {W' : World} {n2 cb : Nat} {ab : Option Addr} (t : St5 w1 n l L2 W e o h q) (hb : Below W.heap.size W W') (ho : OwnI W' W.heap.size (.slice ab n2 cb) L2) : St5 w1 n l L2 W' e o (some (ab, cb)) q := by
  have t2 := t.on hb
  refine ⟨t2.bel, t2.emp, t2.own, fun ab' cb' hh => ?_, t2.box⟩
  cases hh
  obtain ⟨a', c', hv, hsl, _⟩ := ho.read
  cases hv
  exact hsl
theorem no_cell {W : World} {g b o : Nat} {u : Value} (hg : W.heap[g]? = some (.cells #[] 39)) (hc : W.cell? ⟨b, o, none⟩ = some u) : b ≠ g := by
  rintro rfl
  unfold World.cell? at hc
  simp [hg] at hc
theorem step_A1 {ops : Array Oper} {op : Oper} {ac : Act} {K : Act → World → Prop} {Q : Exit → Act → World → Prop} {E : Prop} {w1 W : World} {n : Nat} {l L2 : List Ins} {h : Option (Option Addr × Nat)} {q : Option Nat} (hgd : op.guard = none) (s x : Operand) (ho : op.op = .call { callee := .builtin .append, args := #[s, x], argTypes := #[22, 22] })
    (g0 : Nat) (hv : ac.eval s = .slice (some ⟨g0, 0, none⟩) 0 0) (a : Option Addr) (c : Nat) (hxx : ac.eval x = .slice a n c) (t : St5 w1 n l L2 W (some g0) none h q) (hn : l.length = n) (hs : SliceC w1 a l) (hy : n ≤ 65536)
    (hK : ∀ aa cc w', St5 w1 n l L2 w' none (some (aa, cc)) h q → K (ac.put op.dst (.slice aa n cc)) w') : if Region.wanted op (yielded ops ac.tmps) = true then Oper.wp Tryd.prog op ac W K Q else E := by
  obtain ⟨e1, e2⟩ := t.emp g0 rfl
  have hown : OwnI W w1.heap.size (.slice (some ⟨g0, 0, none⟩) 0 0) [] := ⟨rfl, .inr ⟨g0, 0, _, rfl, e1, e2, Nat.le_refl _, by unfold maxLen; omega, by simp, by simp⟩⟩
  have hw : Region.wanted op (yielded ops ac.tmps) = true := by simp [Region.wanted, hgd]
  rw [if_pos hw]
  refine wp_appI s x ho w1.heap.size _ [] hv hown a c n l hxx hn (hs.below t.bel) (by simp) (by omega) t.bel.size fun v' w' h1 h2 => ?_
  rw [List.nil_append] at h1
  obtain ⟨aa, cc, rfl, _⟩ := h1.read
  subst hn
  have hk : ∀ b, b < W.heap.size → b ≠ g0 → w'.heap[b]? = W.heap[b]? := fun b hb hne => h2.block b hb (by simp [Value.ownBlock]; omega)
  have hsz : W.heap.size ≤ w'.heap.size := h2.size
  refine hK aa cc w' ⟨grownI t.bel hown h2, (fun _ hh => by cases hh), (fun a2 c2 hh => by cases hh; exact h1), (fun ab cb hh => ?_), (fun b hq => ?_)⟩
  · intro hne
    obtain ⟨b, o, rfl, hb, hc⟩ := t.shf ab cb hh hne
    obtain ⟨y, hy0⟩ : ∃ y, L2[0]? = some y := by
      cases L2 with
      | nil => exact absurd rfl hne
      | cons y L => exact ⟨y, rfl⟩
    have hbg : b ≠ g0 := no_cell e2 (hc 0 y hy0).1
    have hh2 := hk b hb hbg
    exact ⟨b, o, rfl, by omega, fun i z hi => ⟨far_cell hh2 (hc i z hi).1, far_cell hh2 (hc i z hi).2.1, far_cell hh2 (hc i z hi).2.2.1, far_cell hh2 (hc i z hi).2.2.2.1, far_cell hh2 (hc i z hi).2.2.2.2⟩⟩
  · obtain ⟨h5, h6⟩ := t.box b hq
    exact ⟨h5, h6.far (hk b (World.block_lt_of_cell? _ _ h6.1) (no_cell e2 h6.1))⟩

/-- when both parts are joined -/
structure Fin5 (w1 : World) (N : Nat) (L3 : List Ins) (w' : World) (aa : Option Addr) (cc : Nat) (q : Option Nat) : Prop where
  bel : Below w1.heap.size w1 w'
  own : OwnI w' w1.heap.size (.slice aa N cc) L3
  box : ∀ b, q = some b → w1.heap.size ≤ b ∧ ZBox w' b
theorem step_A2 {ops : Array Oper} {op : Oper} {ac : Act} {K : Act → World → Prop} {Q : Exit → Act → World → Prop} {E : Prop} {w1 W : World} {n : Nat} {l L2 : List Ins} {e q : Option Nat} (hgd : op.guard = none) (s x : Operand) (ho : op.op = .call { callee := .builtin .append, args := #[s, x], argTypes := #[22, 22] })
    (a1 : Option Addr) (c1 : Nat) (hv : ac.eval s = .slice a1 n c1) (a2 : Option Addr) (c2 n2 : Nat) (hxx : ac.eval x = .slice a2 n2 c2) (t : St5 w1 n l L2 W e (some (a1, c1)) (some (a2, c2)) q) (hn : l.length = n) (hn2 : L2.length = n2) (hy : n ≤ 65536) (hy2 : n2 ≤ 65536)
    (hK : ∀ aa cc w', Fin5 w1 (n + n2) (l ++ L2) w' aa cc q → K (ac.put op.dst (.slice aa (n + n2) cc)) w') : if Region.wanted op (yielded ops ac.tmps) = true then Oper.wp Tryd.prog op ac W K Q else E := by
  have hown := t.own a1 c1 rfl
  have hw : Region.wanted op (yielded ops ac.tmps) = true := by simp [Region.wanted, hgd]
  rw [if_pos hw]
  refine wp_appI s x ho w1.heap.size _ l hv hown a2 c2 n2 L2 hxx hn2 (t.shf a2 c2 rfl) (by omega) (by omega) t.bel.size fun v' w' h1 h2 => ?_
  obtain ⟨aa, cc, rfl, _⟩ := h1.read
  rw [List.length_append, hn, hn2] at h1 ⊢
  refine hK aa cc w' ⟨grownI t.bel hown h2, h1, fun b hq => ?_⟩
  obtain ⟨h5, h6⟩ := t.box b hq
  refine ⟨h5, h6.far (h2.block b (World.block_lt_of_cell? _ _ h6.1) fun eb => ?_)⟩
  obtain ⟨cs, hcs⟩ := h6.2.2.2.2.2.2
  rcases hown.2 with ⟨hx, _⟩ | ⟨g, cap, cur, hx, _, hgb, _⟩
  · rw [hx] at eb; cases eb
  · rw [hx] at eb
    have hgq : g = b := by simpa [Value.ownBlock] using eb.symm
    rw [hgq, hcs] at hgb
    cases hgb
structure CJ (w1 : World) (N : Nat) (L3 : List Ins) (m s : Int) (q : Nat) (aa : Option Addr) (cc : Nat) (W : World) : Prop where
  bel : Below w1.heap.size w1 W
  bx : W.cell? ⟨q, 0, none⟩ = some (.slice aa N cc) ∧ W.cell? ⟨q, 1, none⟩ = some (.int .i64 m) ∧ W.cell? ⟨q, 2, none⟩ = some (.int .i64 s)
  sl : SliceC W aa L3
  lt : w1.heap.size ≤ q
theorem Fin5.way1 {w1 w' : World} {n : Nat} {L3 : List Ins} {m s : Int} {aa : Option Addr} {cc : Nat} {qq : Option Nat} (h : Fin5 w1 n L3 w' aa cc qq) : CJ w1 n L3 m s w'.heap.size aa cc (w'.alloc (.cells #[.slice aa n cc, .int .i64 m, .int .i64 s] 24)) := by
  have hn := below_new w' (.cells #[.slice aa n cc, .int .i64 m, .int .i64 s] 24)
  obtain ⟨⟨b0, b1, b2⟩, _⟩ := boxN w' w'.heap.size (.slice aa n cc) (.int .i64 m) (.int .i64 s) rfl
  obtain ⟨a', c', hv, hsl, hg⟩ := h.own.read
  cases hv
  exact ⟨below_on h.bel hn, ⟨b0, b1, b2⟩, hsl.below hn, h.bel.size⟩
theorem Fin5.way2 {w1 w' : World} {n q : Nat} {L3 : List Ins} {m s : Int} {aa : Option Addr} {cc : Nat} (h : Fin5 w1 n L3 w' aa cc (some q)) : CJ w1 n L3 m s q aa cc (((w'.setCell ⟨q, 0, none⟩ (.slice aa n cc)).setCell ⟨q, 1, none⟩ (.int .i64 m)).setCell ⟨q, 2, none⟩ (.int .i64 s)) := by
  obtain ⟨hq, hz⟩ := h.box q rfl
  obtain ⟨b0, b1, b2, _, _, _, cs, hcs⟩ := hz
  obtain ⟨z0, z1, z2⟩ := set3 w' q (.slice aa n cc) (.int .i64 m) (.int .i64 s) _ _ _ b0 b1 b2
  obtain ⟨a', c', hv, hsl, hg⟩ := h.own.read
  cases hv
  refine ⟨((h.bel.setCell (p := ⟨q, 0, none⟩) hq _).setCell (p := ⟨q, 1, none⟩) hq _).setCell (p := ⟨q, 2, none⟩) hq _, ⟨z0, z1, z2⟩, fun hne => ?_, hq⟩
  obtain ⟨g, o, rfl, hl, hc⟩ := hsl hne
  have hne2 : g ≠ q := by
    rintro rfl
    rcases h.own.2 with ⟨hx, _⟩ | ⟨g', cap, cur, hx, _, hgb, _⟩
    · cases hx
    · cases hx
      rw [hcs] at hgb
      cases hgb
  refine ⟨g, o, rfl, by simpa using hl, fun i x hi => ?_⟩
  obtain ⟨d0, d1, d2, d3, d4⟩ := hc i x hi
  exact ⟨set_past hne2 (set_past hne2 (set_past hne2 d0)), set_past hne2 (set_past hne2 (set_past hne2 d1)), set_past hne2 (set_past hne2 (set_past hne2 d2)), set_past hne2 (set_past hne2 (set_past hne2 d3)), set_past hne2 (set_past hne2 (set_past hne2 d4))⟩
end Go.Proofs.YtalkhkhnpplofaaDoor
