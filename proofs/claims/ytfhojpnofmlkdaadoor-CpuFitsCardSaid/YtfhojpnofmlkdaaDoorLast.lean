/- The stack of open procedures: the closure that pops it. -/
import Derived.Test.YtfhojpnofmlkdaaDoorRows
import Derived.WalkKit
import Derived.ProofKit
import Derived.OpenShut
import Derived.Below
import Derived.Lib.Hide
import Derived.Outline
import Derived.WalkLawsBesides
import Derived.WalkSpells
import Derived.WalkSmall
import Derived.IntWalk
import Derived.Deep.QuietTactic
import Derived.BigQuiet
import Derived.Deep.RegionHeld3
import Derived.StillTailTactics
import Derived.Handy
import Derived.Deep.Cut
import Derived.Deep.OwnRows
import Derived.Deep.RegionWith
import Derived.Test.YtfhojpnofmlkdaaDoorFault
import Derived.Maps.AppendAt
import Derived.Laws.OwnMore
import Derived.Deep.LoopGhost
namespace Go.Proofs.YtfhojpnofmlkdaaDoor
open Go.ChangeShapes Go.WideShapes Go.ChangeAt Go.RowKit
set_option linter.unusedSimpArgs false
set_option linter.unusedVariables false
set_option maxRecDepth 100000
set_option maxRecDepth 100000

/-- what stays where only block F may change -/
structure Chg (F : Nat → Prop) (w w' : World) : Prop where
  os : w'.os = w.os
  tape : w'.tape = w.tape
  output : w'.output = w.output
  size : w.heap.size ≤ w'.heap.size
  block : ∀ k, k < w.heap.size → ¬ F k → w'.heap[k]? = w.heap[k]?
theorem Chg.refl (F : Nat → Prop) (w : World) : Chg F w w := ⟨rfl, rfl, rfl, Nat.le_refl _, fun _ _ _ => rfl⟩
theorem Chg.trans {F : Nat → Prop} {w w1 w2 : World} (h : Chg F w w1) (h2 : Chg F w1 w2) : Chg F w w2 :=
  ⟨h2.os.trans h.os, h2.tape.trans h.tape, h2.output.trans h.output, Nat.le_trans h.size h2.size, fun k hk hn => (h2.block k (Nat.lt_of_lt_of_le hk h.size) hn).trans (h.block k hk hn)⟩
theorem Chg.of_below {w w' : World} (F : Nat → Prop) (h : Below w.heap.size w w') : Chg F w w' := ⟨h.os, h.tape, h.output, h.size, fun k hk _ => h.block k hk⟩
theorem Chg.setCell {F : Nat → Prop} {w w' : World} (h : Chg F w w') {a : Addr} (ha : F a.block) (v : Value) : Chg F w (w'.setCell a v) :=
  h.trans ⟨rfl, rfl, rfl, by simp, fun k _ hn => Below.heap_setCell _ _ _ _ (fun e => hn (by rw [e]; exact ha))⟩
theorem Chg.below {F : Nat → Prop} {B : Nat} {w w' : World} (h : Chg F w w') (hF : ∀ k, F k → B ≤ k) (hB : B ≤ w.heap.size) : Below B w w' := ⟨h.os, h.tape, h.output, h.size, fun k hk => h.block k (Nat.lt_of_lt_of_le hk hB) (fun hf => by have := hF k hf; omega)⟩
theorem Chg.cell {F : Nat → Prop} {w w' : World} (h : Chg F w w') {b o : Nat} {v : Value} (hb : ¬ F b) (hc : w.cell? ⟨b, o, none⟩ = some v) : w'.cell? ⟨b, o, none⟩ = some v := by
  rw [World.cell?_of_block (w := w) (h.block b (World.block_lt_of_cell? w _ hc) hb)]; exact hc
theorem Chg.frozen {F : Nat → Prop} {w w' : World} (h : Chg F w w') {b o : Nat} {v : Value} {y : Bool} (hb : ¬ F b) (hc : w.cell? ⟨b, o, none⟩ = some v) (hf : w.frozen? ⟨b, o, none⟩ = y) : w'.frozen? ⟨b, o, none⟩ = y := by
  have hl := World.block_lt_of_cell? w _ hc
  rw [← hf]
  unfold World.frozen?
  rw [h.block b hl hb]
theorem own_keep {w w' : World} {base e size n : Nat} {v : Value} {xs : List Value} (h : w.ownsRow base e size v n xs) (hk : ∀ k, v.ownBlock = some k → w'.heap[k]? = w.heap[k]?) : w'.ownsRow base e size v n xs := by
  refine ⟨h.1, ?_⟩
  rcases h.2 with hn | ⟨g, cap, cur, rfl, hb, hg, rest⟩
  · exact .inl hn
  · exact .inr ⟨g, cap, cur, rfl, hb, by rw [hk g rfl]; exact hg, rest⟩
def intsV (l : List Nat) : List Value := l.map fun s : Nat => Value.int .i64 (s : Int)
/-- the last element of an own row of integers, and the row without it -/
theorem row_last {w : World} {B : Nat} {v : Value} {ss : List Nat} {s : Nat} (h : w.ownsRow B 3 1 v (ss.length + 1) (intsV (ss ++ [s]))) :
    ∃ g cap, v = .slice (some ⟨g, 0, none⟩) (ss.length + 1) cap ∧ ss.length + 1 ≤ cap ∧ cap ≤ maxLen ∧ w.cell? ⟨g, ss.length, none⟩ = some (.int .i64 (s : Int)) ∧ w.ownsRow B 3 1 (.slice (some ⟨g, 0, none⟩) ss.length cap) ss.length (intsV ss) := by
  obtain ⟨hl, h2⟩ := h
  rcases h2 with ⟨_, hn⟩ | ⟨g, cap, cur, rfl, hb, hg, hnc, hcm, hcs, ht⟩
  · omega
  · refine ⟨g, cap, rfl, hnc, hcm, ?_, by simp [intsV], .inr ⟨g, cap, cur, rfl, hb, hg, by omega, hcm, hcs, ?_⟩⟩
    · have hc := World.ownsRow.cellAt (w := w) (base := B) (e := 3) (size := 1) (g := g) (n := ss.length + 1) (cap := cap) (xs := intsV (ss ++ [s])) ⟨hl, .inr ⟨g, cap, cur, rfl, hb, hg, hnc, hcm, hcs, ht⟩⟩ ss.length (by omega)
      rw [hc]
      simp [intsV]
    · have : (cur.toList.take ((ss.length + 1) * 1)).take (ss.length * 1) = (intsV (ss ++ [s])).take (ss.length * 1) := by rw [ht]
      rw [List.take_take] at this
      rw [show min (ss.length * 1) ((ss.length + 1) * 1) = ss.length * 1 by omega] at this
      rw [this]
      simp [intsV]
theorem row_none {w : World} {B : Nat} {v : Value} (h : w.ownsRow B 3 1 v 0 (intsV [])) : ∃ a cap, v = .slice a 0 cap := by
  rcases h.2 with ⟨rfl, _⟩ | ⟨g, cap, cur, rfl, _⟩
  · exact ⟨none, 0, rfl⟩
  · exact ⟨_, cap, rfl⟩
/-- the stack, its top first, without the procedures that end ahead of i -/
def pop (l : List Ins) (i : Nat) (st : List Nat) : List Nat := st.dropWhile (fun s => decide ((part l s).getD 0 < (i : Int)))
def top (st : List Nat) : Int := match st with | [] => -1 | s :: _ => (s : Int)
def lenAt (w : World) (ob : Nat) : Nat := match w.cell? ⟨ob, 0, none⟩ with | some (.slice _ n _) => n | _ => 0
/-- the box at ob holds a slice of our own with the stack st -/
def Box (w : World) (B ob : Nat) (st : List Nat) (bs : Nat → Prop) : Prop := ∃ v, w.cell? ⟨ob, 0, none⟩ = some v ∧ w.frozen? ⟨ob, 0, none⟩ = false ∧ w.ownsRow B 3 1 v st.length (intsV st.reverse) ∧ ∀ k, v.ownBlock = some k → bs k
theorem Box.below {w w' : World} {B ob : Nat} {st : List Nat} {bs : Nat → Prop} (h : Box w B ob st bs) (hb : Below w.heap.size w w') : Box w' B ob st bs := by
  obtain ⟨v, h1, h2, h3, h4⟩ := h
  exact ⟨v, cell_on hb h1, frozen_on hb h1 h2, own_keep h3 (fun k hk => hb.block k (h3.lt k hk).2), h4⟩
set_option maxRecDepth 100000 in
set_option maxHeartbeats 4000000 in
theorem last_any (ob ib B : Nat) (a : Option Addr) (n cap : Nat) (m s : Int) (l : List Ins) (i : Nat) (st : List Nat) (bs : Nat → Prop) (w0 w : World) (hB : B = w0.heap.size) (hbox : Box w B ob st bs) (hbs : ¬ bs ob) (hob : B ≤ ob) (hib : ib ≠ ob)
    (i0 : w.cell? ⟨ib, 0, none⟩ = some (.slice a n cap)) (i1 : w.cell? ⟨ib, 1, none⟩ = some (.int .i64 m)) (i2 : w.cell? ⟨ib, 2, none⟩ = some (.int .i64 s)) (h : SliceC w0 a l) (hn : l.length = n) (hw : WF l) (hL : Laid w0) (h0 : Below w0.heap.size w0 w) (hst : st.length ≤ 60000) :
    Calls Tryd.prog 71 #[.int .i64 i, .pointer (some ⟨ob, 0, none⟩), .pointer (some ⟨ib, 0, none⟩)] w fun e w' => e = .returned (.int .i64 (top (pop l i st))) ∧ Box w' B ob (pop l i st) bs ∧ Chg (fun k => k = ob) w w' := by
  subst hB
  have HS := Lib.hid h
  have HL := Lib.hid hL
  have H0 := Lib.hid h0
  have HI := Lib.hid (And.intro i0 (And.intro i1 i2))
  have HBX := Lib.hid hbox
  have HBS := Lib.hid hbs
  clear h hL h0 i0 i1 i2 hbox hbs
  go_enter Tryd.func71, Tryd.ntmps71
  go_wp2
  go_loopg [5] st.length (fun k x wr => ∃ st' : List Nat, st'.length = k ∧ Hid (pop l i st' = pop l i st) ∧ Hid (Box wr w0.heap.size ob st' bs) ∧ Hid (Chg (fun k => k = ob) w wr) ∧ k ≤ st.length)
  case atStart => exact ⟨st, rfl, Lib.hid rfl, HBX, Lib.hid (Chg.refl _ _), Nat.le_refl _⟩
  case round =>
    clear HBX
    obtain ⟨st', hle, HP, HBR, HC, hgk⟩ := hrel
    have j0 := HC.out.cell hib HI.out.1
    have j1 := HC.out.cell hib HI.out.2.1
    have j2 := HC.out.cell hib HI.out.2.2
    have HBW : Hid (Below w0.heap.size w0 wr) := Lib.hid (H0.out.trans (HC.out.below (fun k e => by rw [e]; exact hob) H0.out.size))
    cases st' with
    | nil =>
      obtain ⟨v, hv, hf, hown, hbk⟩ := HBR.out
      obtain ⟨av, cv, rfl⟩ := row_none hown
      have hpn : pop l i st = [] := by rw [← HP.out]; rfl
      have HPN := Lib.hid hpn
      clear hown hbk hpn
      go_wp2
      go_ret
      exact ⟨by rw [HPN.out]; rfl, by rw [HPN.out]; exact HBR.out, HC.out⟩
    | cons t st' =>
      have hp := HP.out
      have hpq : pop l i (t :: st') = if decide ((part l (t : Int)).getD 0 < (i : Int)) = true then pop l i st' else t :: st' := by unfold pop; rw [List.dropWhile_cons]
      rw [hpq] at hp
      clear hpq
      have HBR2 := HBR.out
      obtain ⟨v, hv, hf, hown, hbk⟩ := HBR2
      rw [List.reverse_cons, List.length_cons] at hown
      have hlr : st'.reverse.length = st'.length := List.length_reverse
      rw [← hlr] at hown
      obtain ⟨g, cv, rfl, hnc, hcm, hct, hshort⟩ := row_last hown
      rw [hlr] at hnc hct hshort hv
      obtain ⟨N, hN⟩ : ∃ N, st'.length = N := ⟨_, rfl⟩
      rw [hN] at hnc hct hshort hv
      have hgb : bs g := hbk g rfl
      have HSH := Lib.hid (And.intro hshort (And.intro hgb (And.intro hN (And.intro hv hf))))
      have hNb : N ≤ 60000 := by rw [List.length_cons] at hle; omega
      have hgne : g ≠ ob := fun e => HBS.out (e ▸ hgb)
      have hw1 : IntKind.i64.wrap ((N : Int) + 1 - 1) = (N : Int) := by rw [IntWalk.i64_in _ (by omega)]; omega
      have hw2 : ((N : Int) + 1 - 1) = (N : Int) := by omega
      have hw3 : (N : Int) < (N : Int) + 1 := by omega
      have hw4 : ((N : Int) + 1 == 0) = false := by simp; omega
      have hw5 : IntKind.i64.wrap (N : Int) = (N : Int) := IntWalk.i64_in _ (by omega)
      have hc2 : (N : Int) ≤ (cv : Int) := by omega
      have hc3 : N ≤ cv := by omega
      have hc4 : (0 : Int) < (N : Int) + 1 := by omega
      have HLE := Lib.hid hle
      clear hown hbk hshort hN hlr hle
      obtain ⟨e1, he1⟩ : ∃ e1, (part l (t : Int)).getD 0 = e1 := ⟨_, rfl⟩
      have HE1 := Lib.hid he1
      rw [he1] at hp
      clear he1
      by_cases hlt : e1 < (i : Int)
      · rw [if_pos (by simpa using hlt)] at hp
        have HPP := Lib.hid hp
        have hd : decide ((i : Int) ≤ e1) = false := by simp; omega
        clear hp
        go_wp2_with (go_at_call 72; refine (partner_any a n cap l m s t _ (HS.out.below HBW.out) hn hw (HL.out.below HBW.out)).mono ?_; rw [HE1.out]; rintro e w2 ⟨rfl, hb⟩; have HB2 := Lib.hid hb; have hv2 := cell_on hb hv; have hf2 := frozen_on hb hv hf; clear hb)
        go_roundg st'.length
        case measure => have := HLE.out; rw [List.length_cons] at this; omega
        case rel => exact ⟨st', rfl, Lib.hid HPP.out, Lib.hid ⟨_, World.cell?_setCell_same _ _ _ hv2, by rw [World.frozen?_setCell]; exact hf2, by rw [HSH.out.2.2.1]; exact own_keep HSH.out.1 (fun k hk => by cases hk; rw [Below.heap_setCell _ _ _ _ hgne]; exact HB2.out.block _ (HSH.out.1.lt _ rfl).2), fun k hk => by cases hk; exact HSH.out.2.1⟩, Lib.hid ((HC.out.trans (Chg.of_below _ HB2.out)).setCell rfl _), by have := HLE.out; rw [List.length_cons] at this; omega⟩
      · rw [if_neg (by simpa using hlt)] at hp
        have HPP := Lib.hid hp
        have hd : decide ((i : Int) ≤ e1) = true := by simp; omega
        clear hp
        go_wp2_with (go_at_call 72; refine (partner_any a n cap l m s t _ (HS.out.below HBW.out) hn hw (HL.out.below HBW.out)).mono ?_; rw [HE1.out]; rintro e w2 ⟨rfl, hb⟩; have HB2 := Lib.hid hb; clear hb)
        go_ret
        exact ⟨by rw [← HPP.out]; rfl, by rw [← HPP.out]; exact HBR.out.below HB2.out, HC.out.trans (Chg.of_below _ HB2.out)⟩
end Go.Proofs.YtfhojpnofmlkdaaDoor
