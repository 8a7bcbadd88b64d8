/- A tape with the list of the operations that undo it; three tapes side by side. -/
import Derived.Test.YthbeillgpnffmaaRows
import Derived.WalkKit
import Derived.ProofKit
import Derived.OpenShut
import Derived.Below
import Derived.Lib.Hide
import Derived.WalkSpells
import Derived.WalkLawsBesides
import Derived.Outline
import Derived.WalkSmall
import Derived.IntWalk
import Derived.Deep.OwnRows
import Derived.Deep.QuietTactic
import Derived.BigQuiet
import Derived.Test.YthbeillgpnffmaaTwo
import Derived.Maps.AppendAt
import Derived.Laws.OwnMore
namespace Go.Proofs.Ythbeillgpnffmaa
open Go.ChangeShapes Go.WideShapes Go.ChangeAt Go.RowKit
set_option linter.unusedSimpArgs false
set_option linter.unusedVariables false

theorem own_keep {w w' : World} {base e size n : Nat} {v : Value} {xs : List Value} (h : w.ownsRow base e size v n xs) (hk : ∀ k, v.ownBlock = some k → w'.heap[k]? = w.heap[k]?) : w'.ownsRow base e size v n xs := by
  refine ⟨h.1, ?_⟩
  rcases h.2 with hn | ⟨g, cap, cur, rfl, hb, hg, rest⟩
  · exact .inl hn
  · exact .inr ⟨g, cap, cur, rfl, hb, by rw [hk g rfl]; exact hg, rest⟩
def cellsO (x : Int × Int) : List Value := [.int .i64 x.1, .int .i64 x.2]
theorem cellsO_len (l : List (Int × Int)) : (l.flatMap cellsO).length = l.length * 2 := by
  induction l with
  | nil => rfl
  | cons x l ih => rw [List.flatMap_cons, List.length_append, ih, List.length_cons]; simp [cellsO]; omega
theorem cellsO_at : ∀ (l : List (Int × Int)) (i : Nat) (x : Int × Int), l[i]? = some x → (l.flatMap cellsO)[i * 2]? = some (.int .i64 x.1) ∧ (l.flatMap cellsO)[i * 2 + 1]? = some (.int .i64 x.2) := by
  intro l
  induction l with
  | nil => intro i x h; simp at h
  | cons y l ih =>
    intro i x h
    cases i with
    | zero => simp at h; subst h; simp [cellsO]
    | succ i =>
      have h' : l[i]? = some x := by simpa using h
      obtain ⟨h1, h2⟩ := ih i x h'
      rw [show (i + 1) * 2 = i * 2 + 2 by omega, List.flatMap_cons]
      constructor
      · rw [List.getElem?_append_right (by simp [cellsO])]
        simpa [cellsO] using h1
      · rw [List.getElem?_append_right (by simp [cellsO])]
        have : i * 2 + 2 + 1 - (cellsO y).length = i * 2 + 1 := by simp [cellsO]
        rw [this]; exact h2
/-- a tape at p, and a slice v of our own that holds the operations us -/
def TU (w0 w : World) (p : Nat) (v : Value) (ins outs : List Int) (us : List (Int × Int)) : Prop :=
  ∃ F : Nat → Prop, Tape w F p ins outs ∧ (∀ k, F k → w0.heap.size ≤ k) ∧ Below w0.heap.size w0 w ∧ w.ownsRow w0.heap.size 37 2 v us.length (us.flatMap cellsO) ∧ (∀ k, F k → v.ownBlock ≠ some k)
theorem TU.bel {w0 w : World} {p : Nat} {v : Value} {ins outs : List Int} {us : List (Int × Int)} (h : TU w0 w p v ins outs us) : Below w0.heap.size w0 w := by obtain ⟨_, _, _, h, _⟩ := h; exact h
theorem TU.below {w0 w w' : World} {p : Nat} {v : Value} {ins outs : List Int} {us : List (Int × Int)} (h : TU w0 w p v ins outs us) (hb : Below w.heap.size w w') : TU w0 w' p v ins outs us := by
  obtain ⟨F, h1, h2, h3, h4, h5⟩ := h
  exact ⟨F, h1.below hb, h2, below_on h3 hb, own_keep h4 (fun k hk => hb.block k (h4.lt k hk).2), h5⟩
theorem TU.tape {w0 w : World} {p : Nat} {v : Value} {ins outs : List Int} {us : List (Int × Int)} (h : TU w0 w p v ins outs us) : TapeB w0 w p ins outs := by
  obtain ⟨F, h1, h2, h3, h4, h5⟩ := h
  exact ⟨F, h1, h2, h3⟩
theorem TU.form {w0 w : World} {p : Nat} {v : Value} {ins outs : List Int} {us : List (Int × Int)} (h : TU w0 w p v ins outs us) : ∃ a c, v = .slice a us.length c ∧ ∀ (i : Nat) (x : Int × Int), us[i]? = some x → ∃ g, a = some ⟨g, 0, none⟩ ∧ us.length ≤ c ∧ w.cell? ⟨g, i * 2, none⟩ = some (.int .i64 x.1) ∧ w.cell? ⟨g, i * 2 + 1, none⟩ = some (.int .i64 x.2) := by
  obtain ⟨F, h1, h2, h3, h4, h5⟩ := h
  rcases id h4.2 with ⟨rfl, hn⟩ | ⟨g, cap, cur, rfl, hb, hg, hnc, rest⟩
  · rw [hn]
    exact ⟨none, 0, rfl, fun i x hi => by have := (List.getElem?_eq_some_iff.1 hi).1; omega⟩
  · refine ⟨_, cap, rfl, fun i x hi => ⟨g, rfl, hnc, ?_, ?_⟩⟩
    · obtain ⟨q1, q2⟩ := cellsO_at us i x hi
      rw [← q1]
      have hil := (List.getElem?_eq_some_iff.1 hi).1
      exact h4.cellAt (i * 2) (by omega)
    · obtain ⟨q1, q2⟩ := cellsO_at us i x hi
      rw [← q2]
      have hil := (List.getElem?_eq_some_iff.1 hi).1
      exact h4.cellAt (i * 2 + 1) (by omega)
theorem doTU (w0 w W : World) (ob : Obj) (p : Nat) (k n : Int) (v : Value) (ins outs : List Int) (us : List (Int × Int)) (h : TU w0 w p v ins outs us) (hB : Below w.heap.size w W) (hbox : W.heap[w.heap.size]? = some ob) (hl : outs.length ≤ 4096) :
    Calls Try.prog 16 #[.pointer (some ⟨p, 0, none⟩), .agg #[.int .i64 k, .int .i64 n]] W fun e w' => e = .returned (.tuple #[.int .i64 (stepT k n ins outs).2.2.1, .int .i64 (stepT k n ins outs).2.2.2]) ∧ TU w0 w' p v (stepT k n ins outs).1 (stepT k n ins outs).2.1 us ∧ w'.heap[w.heap.size]? = some ob := by
  obtain ⟨F, h1, h2, h3, h4, h5⟩ := h
  refine (do_any F p k n ins outs W (h1.below hB) (by omega)).mono ?_
  rintro x w' ⟨rfl, hp⟩
  refine ⟨rfl, ⟨grow F W w', hp.1, fun j hj => ?_, (below_on h3 hB).trans (hp.2.below h2 (Nat.le_trans h3.size hB.size)), own_keep h4 (fun j hj => ?_), fun j hj e => ?_⟩, ?_⟩
  · rcases hj with hj | hj
    · exact h2 j hj
    · exact Nat.le_trans (Nat.le_trans h3.size hB.size) hj.1
  · have hlt := (h4.lt j hj).2
    rw [hp.2.block j (Nat.lt_of_lt_of_le hlt hB.size) (fun hf => h5 j hf hj)]
    exact hB.block j hlt
  · rcases hj with hj | hj
    · exact h5 j hj e
    · have := (h4.lt j e).2
      have := hB.size
      omega
  · have hsz : w.heap.size < W.heap.size := (Array.getElem?_eq_some_iff.1 hbox).1
    rw [hp.2.block _ hsz (fun hf => by have := h1.lt _ hf; omega)]
    exact hbox
theorem doU (w0 w : World) (p : Nat) (k n : Int) (v : Value) (ins outs : List Int) (us : List (Int × Int)) (h : TU w0 w p v ins outs us) (hl : outs.length ≤ 4096) :
    Calls Try.prog 16 #[.pointer (some ⟨p, 0, none⟩), .agg #[.int .i64 k, .int .i64 n]] w fun e w' => e = .returned (.tuple #[.int .i64 (stepT k n ins outs).2.2.1, .int .i64 (stepT k n ins outs).2.2.2]) ∧ TU w0 w' p v (stepT k n ins outs).1 (stepT k n ins outs).2.1 us := by
  obtain ⟨F, h1, h2, h3, h4, h5⟩ := h
  refine (do_any F p k n ins outs w h1 (by omega)).mono ?_
  rintro x w' ⟨rfl, hp⟩
  refine ⟨rfl, ⟨grow F w w', hp.1, fun j hj => ?_, h3.trans (hp.2.below h2 h3.size), own_keep h4 (fun j hj => ?_), fun j hj e => ?_⟩⟩
  · rcases hj with hj | hj
    · exact h2 j hj
    · exact Nat.le_trans h3.size hj.1
  · exact hp.2.block j (h4.lt j hj).2 (fun hf => h5 j hf hj)
  · rcases hj with hj | hj
    · exact h5 j hj e
    · have := (h4.lt j e).2
      omega
theorem Try.info37 : (Try.prog.info? 37).map (fun i => (i.zero, i.size, i.bytes)) = some (some (.agg #[.int .i64 0, .int .i64 0]), 2, 16) := by kernel_rfl
theorem wpList_appO {ops : Array Oper} {rest : List Oper} {o : Oper} {ac : Act} {w w0 : World} {Q : Exit → Act → World → Prop} (hgd : o.guard = none) (s x : Operand) (ho : o.op = .call { callee := .builtin .append, args := #[s, x], argTypes := #[32, 32] })
    (p : Nat) (v : Value) (ins outs : List Int) (us : List (Int × Int)) (hv : ac.eval s = v) (hT : TU w0 w p v ins outs us) (b c : Nat) (y1 y2 : Int) (hx : ac.eval x = .slice (some ⟨b, 0, none⟩) 1 c)
    (hc0 : w.cell? ⟨b, 0, none⟩ = some (.int .i64 y1)) (hc1 : w.cell? ⟨b, 1, none⟩ = some (.int .i64 y2)) (hn : us.length ≤ 65536)
    (h : ∀ v' w', TU w0 w' p v' ins outs (us ++ [(y1, y2)]) → Below w0.heap.size w0 w' → wpList Try.prog ops Q rest (ac.put o.dst v') w') : wpList Try.prog ops Q (o :: rest) ac w := by
  obtain ⟨F, h1, h2, h3, h4, h5⟩ := hT
  obtain ⟨i0, hi, hz0, hz1, hz2⟩ := info_parts Try.info37
  refine wpList_append_own_at (P := Try.prog) w hgd s x 32 ho w0.heap.size 37 i0 (.agg #[.int .i64 0, .int .i64 0]) 2 16 Try.underlying32 hi hz0 hz1 hz2 rfl (by decide) v us.length _ hv h4 ⟨b, 0, none⟩ 1 c [.int .i64 y1, .int .i64 y2] hx rfl (fun j u hj => ?_) (by simp [Value.oneCell']) (by unfold maxLen; omega) (by omega) h3.size ?_
  · rw [Addr.add_lit, Nat.zero_add]
    match j, hj with
    | 0, hj => cases hj; exact hc0
    | 1, hj => cases hj; exact hc1
    | j + 2, hj => simp at hj
  · intro v' w' k1 k2 _ k3
    have hb := h3.grown k2 h3.size (fun k hk => (h4.lt k hk).1)
    refine h v' w' ⟨F, h1.keep k2.size (fun k hk => k2.block k (h1.lt k hk) (fun e => h5 k hk e.symm)), h2, hb, ?_, fun k hk e => ?_⟩ hb
    · rw [List.length_append, List.length_singleton, List.flatMap_append]
      have : List.flatMap cellsO [(y1, y2)] = [.int .i64 y1, .int .i64 y2] := rfl
      rw [this]; exact k1
    · rcases k3 with k3 | k3
      · exact h5 k hk (k3 ▸ e)
      · rw [k3] at e
        have := h1.lt k hk
        simp at e
        omega
/-- these operations, one after the other, lead from (i, o) to (i0, o0), and each succeeds -/
def UN : List (Int × Int) → List Int → List Int → List Int → List Int → Prop
  | [], i, o, i0, o0 => i = i0 ∧ o = o0
  | x :: xs, i, o, i0, o0 => ∃ i' o' r, stepT x.1 x.2 i o = (i', o', r, 0) ∧ i'.length ≤ 4096 ∧ o'.length ≤ 4096 ∧ UN xs i' o' i0 o0
/-- three tapes in different blocks -/
def T3 (w0 w : World) (p1 p2 p3 : Nat) (i1 o1 i2 o2 i3 o3 : List Int) : Prop :=
  ∃ F1 F2 F3 : Nat → Prop, Tape w F1 p1 i1 o1 ∧ Tape w F2 p2 i2 o2 ∧ Tape w F3 p3 i3 o3 ∧ (∀ k, F1 k → ¬ F2 k) ∧ (∀ k, F1 k → ¬ F3 k) ∧ (∀ k, F2 k → ¬ F3 k) ∧ (∀ k, F1 k → w0.heap.size ≤ k) ∧ (∀ k, F2 k → w0.heap.size ≤ k) ∧ (∀ k, F3 k → w0.heap.size ≤ k) ∧ Below w0.heap.size w0 w
theorem T3.bel {w0 w : World} {p1 p2 p3 : Nat} {i1 o1 i2 o2 i3 o3 : List Int} (h : T3 w0 w p1 p2 p3 i1 o1 i2 o2 i3 o3) : Below w0.heap.size w0 w := by obtain ⟨_, _, _, _, _, _, _, _, _, _, _, _, h⟩ := h; exact h
theorem T3.below {w0 w w' : World} {p1 p2 p3 : Nat} {i1 o1 i2 o2 i3 o3 : List Int} (h : T3 w0 w p1 p2 p3 i1 o1 i2 o2 i3 o3) (hb : Below w.heap.size w w') : T3 w0 w' p1 p2 p3 i1 o1 i2 o2 i3 o3 := by
  obtain ⟨F1, F2, F3, h1, h2, h3, d1, d2, d3, g1, g2, g3, hbb⟩ := h
  exact ⟨F1, F2, F3, h1.below hb, h2.below hb, h3.below hb, d1, d2, d3, g1, g2, g3, below_on hbb hb⟩
/-- the second tape comes first -/
theorem T3.rot {w0 w : World} {p1 p2 p3 : Nat} {i1 o1 i2 o2 i3 o3 : List Int} (h : T3 w0 w p1 p2 p3 i1 o1 i2 o2 i3 o3) : T3 w0 w p2 p3 p1 i2 o2 i3 o3 i1 o1 := by
  obtain ⟨F1, F2, F3, h1, h2, h3, d1, d2, d3, g1, g2, g3, hbb⟩ := h
  exact ⟨F2, F3, F1, h2, h3, h1, d3, fun k h2 h1 => d1 k h1 h2, fun k h3 h1 => d2 k h1 h3, g2, g3, g1, hbb⟩
theorem T3.one {w0 w : World} {p1 p2 p3 : Nat} {i1 o1 i2 o2 i3 o3 : List Int} (h : T3 w0 w p1 p2 p3 i1 o1 i2 o2 i3 o3) : TapeB w0 w p1 i1 o1 := by
  obtain ⟨F1, F2, F3, h1, h2, h3, d1, d2, d3, g1, g2, g3, hbb⟩ := h
  exact ⟨F1, h1, g1, hbb⟩
theorem doT3 (w0 w W : World) (ob : Obj) (p1 p2 p3 : Nat) (k n : Int) (i1 o1 i2 o2 i3 o3 : List Int) (h : T3 w0 w p1 p2 p3 i1 o1 i2 o2 i3 o3) (hB : Below w.heap.size w W) (hbox : W.heap[w.heap.size]? = some ob) (hl : o1.length ≤ 4096) :
    Calls Try.prog 16 #[.pointer (some ⟨p1, 0, none⟩), .agg #[.int .i64 k, .int .i64 n]] W fun e w' => e = .returned (.tuple #[.int .i64 (stepT k n i1 o1).2.2.1, .int .i64 (stepT k n i1 o1).2.2.2]) ∧ T3 w0 w' p1 p2 p3 (stepT k n i1 o1).1 (stepT k n i1 o1).2.1 i2 o2 i3 o3 ∧ w'.heap[w.heap.size]? = some ob := by
  obtain ⟨F1, F2, F3, h1, h2, h3, d1, d2, d3, g1, g2, g3, hbb⟩ := h
  refine (do_any F1 p1 k n i1 o1 W (h1.below hB) (by omega)).mono ?_
  rintro x w' ⟨rfl, hp⟩
  have hs := hB.size
  refine ⟨rfl, ⟨grow F1 W w', F2, F3, hp.1, (h2.below hB).chg hp.2 (fun j hg hf => d1 j hf hg), (h3.below hB).chg hp.2 (fun j hg hf => d2 j hf hg), fun j hj hg => ?_, fun j hj hg => ?_, d3, fun j hj => ?_, g2, g3, (below_on hbb hB).trans (hp.2.below g1 (Nat.le_trans hbb.size hB.size))⟩, ?_⟩
  · rcases hj with hj | hj
    · exact d1 j hj hg
    · have := h2.lt j hg; omega
  · rcases hj with hj | hj
    · exact d2 j hj hg
    · have := h3.lt j hg; omega
  · rcases hj with hj | hj
    · exact g1 j hj
    · exact Nat.le_trans (Nat.le_trans hbb.size hB.size) hj.1
  · have hsz : w.heap.size < W.heap.size := (Array.getElem?_eq_some_iff.1 hbox).1
    rw [hp.2.block _ hsz (fun hf => by have := h1.lt _ hf; omega)]
    exact hbox
theorem doT3' (w0 w : World) (p1 p2 p3 : Nat) (k n : Int) (i1 o1 i2 o2 i3 o3 : List Int) (h : T3 w0 w p1 p2 p3 i1 o1 i2 o2 i3 o3) (hl : o1.length ≤ 4096) :
    Calls Try.prog 16 #[.pointer (some ⟨p1, 0, none⟩), .agg #[.int .i64 k, .int .i64 n]] w fun e w' => e = .returned (.tuple #[.int .i64 (stepT k n i1 o1).2.2.1, .int .i64 (stepT k n i1 o1).2.2.2]) ∧ T3 w0 w' p1 p2 p3 (stepT k n i1 o1).1 (stepT k n i1 o1).2.1 i2 o2 i3 o3 := by
  obtain ⟨F1, F2, F3, h1, h2, h3, d1, d2, d3, g1, g2, g3, hbb⟩ := h
  refine (do_any F1 p1 k n i1 o1 w h1 (by omega)).mono ?_
  rintro x w' ⟨rfl, hp⟩
  refine ⟨rfl, ⟨grow F1 w w', F2, F3, hp.1, h2.chg hp.2 (fun j hg hf => d1 j hf hg), h3.chg hp.2 (fun j hg hf => d2 j hf hg), fun j hj hg => ?_, fun j hj hg => ?_, d3, fun j hj => ?_, g2, g3, hbb.trans (hp.2.below g1 hbb.size)⟩⟩
  · rcases hj with hj | hj
    · exact d1 j hj hg
    · have := h2.lt j hg; omega
  · rcases hj with hj | hj
    · exact d2 j hj hg
    · have := h3.lt j hg; omega
  · rcases hj with hj | hj
    · exact g1 j hj
    · exact Nat.le_trans hbb.size hj.1
theorem new_three (a1 a2 : Option Addr) (n1 n2 c1 c2 : Nat) (ins outs : List Int) (w0 w : World) (hw : w0.heap.size ≤ w.heap.size) (h1 : SliceI w a1 ins) (h2 : SliceI w a2 outs) (e1 : ins.length = n1) (e2 : outs.length = n2) (l1 : n1 ≤ 4096) (l2 : n2 ≤ 4096) :
    Calls Try.prog 13 #[.slice a1 n1 c1, .slice a2 n2 c2] w fun e w' => ∃ p F, e = .returned (.tuple #[.pointer (some ⟨p, 0, none⟩), .int .i64 0]) ∧ Tape w' F p ins outs ∧ (∀ k, F k → w.heap.size ≤ k) ∧ Below w.heap.size w w' := new_okF a1 a2 n1 n2 c1 c2 ins outs w h1 h2 e1 e2 l1 l2
/-- New of anything: it returns, and nothing older changes -/
theorem new_any (a1 a2 : Option Addr) (n1 n2 c1 c2 : Nat) (ins outs : List Int) (w : World) (h1 : SliceI w a1 ins) (h2 : SliceI w a2 outs) (e1 : ins.length = n1) (e2 : outs.length = n2) :
    Calls Try.prog 13 #[.slice a1 n1 c1, .slice a2 n2 c2] w fun e w' => ∃ v k, e = .returned (.tuple #[.pointer v, .int .i64 k]) ∧ Below w.heap.size w w' := by
  by_cases h : 4096 < n1 ∨ 4096 < n2
  · refine (new_full a1 a2 n1 n2 c1 c2 w h).mono ?_
    rintro e w' ⟨rfl, rfl⟩
    exact ⟨_, _, rfl, Below.refl _ _⟩
  · refine (new_okF a1 a2 n1 n2 c1 c2 ins outs w h1 h2 e1 e2 (by omega) (by omega)).mono ?_
    rintro e w' ⟨p, F, rfl, _, _, hb⟩
    exact ⟨_, _, rfl, hb⟩
/-- operations on the input do not look at the output, and the other way round -/
theorem step_ins {k n : Int} {ins outs i' o' : List Int} {r e : Int} (hk : k = 1 ∨ k = 2) (h : stepT k n ins outs = (i', o', r, e)) : o' = outs ∧ stepT k n ins [] = (i', [], r, e) := by
  unfold stepT at h ⊢
  rcases hk with rfl | rfl
  · rw [if_pos rfl] at h ⊢
    cases ins <;> · cases h; exact ⟨rfl, rfl⟩
  · rw [if_neg (by decide), if_pos rfl] at h ⊢
    split at h
    · cases h; rename_i h1; exact ⟨rfl, by rw [if_pos h1]⟩
    · cases h; rename_i h1; exact ⟨rfl, by rw [if_neg h1]⟩
theorem step_outs {k n : Int} {ins outs i' o' : List Int} {r e : Int} (hk1 : ¬ k = 1) (hk2 : ¬ k = 2) (h : stepT k n ins outs = (i', o', r, e)) : i' = ins ∧ stepT k n [] outs = ([], o', r, e) := by
  unfold stepT at h ⊢
  rw [if_neg hk1, if_neg hk2] at h ⊢
  split at h
  · split at h
    · cases h; rename_i h1 h2; exact ⟨rfl, by rw [if_pos h1, if_pos h2]⟩
    · cases h; rename_i h1 h2; exact ⟨rfl, by rw [if_pos h1, if_neg h2]⟩
  · split at h
    · cases h; rename_i h1 _ h2; exact ⟨rfl, by rw [if_neg h1]⟩
    · cases h; rename_i h1 _ h2; exact ⟨rfl, by rw [if_neg h1]⟩
theorem doTTk (w0 w W : World) (ob : Obj) (p q : Nat) (k n : Int) (i1 o1 i2 o2 : List Int) (h : TT w0 w p q i1 o1 i2 o2) (hA : Below w.heap.size w W) (hbox : W.heap[w.heap.size]? = some ob) (hl : o1.length ≤ 4096) :
    Calls Try.prog 16 #[.pointer (some ⟨p, 0, none⟩), .agg #[.int .i64 k, .int .i64 n]] W fun e w' => e = .returned (.tuple #[.int .i64 (stepT k n i1 o1).2.2.1, .int .i64 (stepT k n i1 o1).2.2.2]) ∧ TT w0 w' p q (stepT k n i1 o1).1 (stepT k n i1 o1).2.1 i2 o2 ∧ w'.heap[w.heap.size]? = some ob := by
  obtain ⟨F, G, h1, h2, h3, h4, h5, h6⟩ := id h
  have hsz : w.heap.size < W.heap.size := (Array.getElem?_eq_some_iff.1 hbox).1
  refine (do_any F p k n i1 o1 _ (h1.below hA) (by omega)).mono ?_
  rintro x w' ⟨rfl, hp⟩
  refine ⟨rfl, ⟨grow F W w', G, hp.1, (h2.keep hA.size (fun k hk => hA.block k (h2.lt k hk))).chg hp.2 (fun j hg hf => h3 j hf hg), fun j hj hg => ?_, fun j hj => ?_, h5, (below_on h6 hA).trans (hp.2.below h4 (Nat.le_trans h6.size hA.size))⟩, ?_⟩
  · rcases hj with hj | hj
    · exact h3 j hj hg
    · have := h2.lt j hg; omega
  · rcases hj with hj | hj
    · exact h4 j hj
    · exact Nat.le_trans (Nat.le_trans h6.size hA.size) hj.1
  · rw [hp.2.block _ (by omega) (fun hf => by have := h1.lt _ hf; omega)]
    exact hbox
theorem in_nil (w : World) : Calls Try.prog 14 #[.pointer none] w fun e w' => e = .returned (.slice none 0 0) ∧ w' = w := by
  go_enter Try.func14, Try.ntmps14
  go_wp2
  go_ret
  exact ⟨rfl, rfl⟩
theorem out_nil (w : World) : Calls Try.prog 19 #[.pointer none] w fun e w' => e = .returned (.slice none 0 0) ∧ w' = w := by
  go_enter Try.func19, Try.ntmps19
  go_wp2
  go_ret
  exact ⟨rfl, rfl⟩
end Go.Proofs.Ythbeillgpnffmaa
