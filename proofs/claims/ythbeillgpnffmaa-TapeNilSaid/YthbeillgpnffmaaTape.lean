/- A tape in memory, and what each operation makes of it. -/
import Derived.Test.YthbeillgpnffmaaRows
import Derived.WalkKit
import Derived.ProofKit
import Derived.OpenShut
import Derived.Below
import Derived.Lib.Hide
import Derived.WalkSpells
import Derived.WalkLawsBesides
import Derived.Outline
import Derived.WalkSmall
import Derived.IntWalk
import Derived.Deep.OwnRows
import Derived.Deep.QuietTactic
import Derived.BigQuiet
import Derived.Test.YthbeillgpnffmaaInsert
import Derived.Deep.RegionWith
namespace Go.Proofs.Ythbeillgpnffmaa
open Go.ChangeShapes Go.WideShapes Go.ChangeAt Go.RowKit
set_option linter.unusedSimpArgs false
set_option linter.unusedVariables false

/-- block p is a tape whose two fields hold vin and vout -/
def TapeAt (w : World) (p : Nat) (vin vout : Value) (ins outs : List Int) : Prop :=
  w.heap[p]? = some (.cells #[vin, vout] 48 (0, 0)) ∧ OwnI w vin ins ∧ OwnI w vout outs ∧ (∀ k, blk vin k → ¬ blk vout k)
theorem own_type {w : World} {v : Value} {zs : List Int} {p : Nat} {cs : Array Value} {T : TypeId} (h : OwnI w v zs) (hp : w.heap[p]? = some (.cells cs T (0, 0))) (hT : T ≠ 3) : ¬ blk v p := fun hb => by
  rcases h with ⟨rfl, _⟩ | ⟨g, o, c, n, f, rfl, ⟨cc, h1, _⟩, _⟩
  · cases hb
  · cases hb
    rw [hp] at h1
    simp only [Option.some.injEq, Obj.cells.injEq] at h1
    exact hT h1.2.1
/-- a tape whose blocks are all in F -/
def Tape (w : World) (F : Nat → Prop) (p : Nat) (ins outs : List Int) : Prop :=
  ∃ vin vout, TapeAt w p vin vout ins outs ∧ F p ∧ (∀ k, blk vin k → F k) ∧ (∀ k, blk vout k → F k) ∧ (∀ k, F k → k < w.heap.size)
theorem Tape.keep {w w' : World} {F : Nat → Prop} {p : Nat} {ins outs : List Int} (h : Tape w F p ins outs) (hs : w.heap.size ≤ w'.heap.size) (hk : ∀ k, F k → w'.heap[k]? = w.heap[k]?) : Tape w' F p ins outs := by
  obtain ⟨vin, vout, ⟨h1, h2, h3, h4⟩, h5, h6, h7, h8⟩ := h
  exact ⟨vin, vout, ⟨(hk p h5).trans h1, h2.keep fun k hb => hk k (h6 k hb), h3.keep fun k hb => hk k (h7 k hb), h4⟩, h5, h6, h7, fun k hf => Nat.lt_of_lt_of_le (h8 k hf) hs⟩
theorem Tape.chg {w w' : World} {F G : Nat → Prop} {p : Nat} {ins outs : List Int} (h : Tape w F p ins outs) (hc : Chg G w w') (hd : ∀ k, F k → ¬ G k) : Tape w' F p ins outs :=
  h.keep hc.size (fun k hf => hc.block k (by obtain ⟨_, _, _, _, _, _, h8⟩ := h; exact h8 k hf) (hd k hf))
theorem Tape.mono {w : World} {F G : Nat → Prop} {p : Nat} {ins outs : List Int} (h : Tape w F p ins outs) (hs : ∀ k, F k → G k) (hG : ∀ k, G k → k < w.heap.size) : Tape w G p ins outs := by
  obtain ⟨vin, vout, h1, h5, h6, h7, h8⟩ := h
  exact ⟨vin, vout, h1, hs p h5, fun k hb => hs k (h6 k hb), fun k hb => hs k (h7 k hb), hG⟩
/-- what one operation does: input, output, the number, the error -/
def stepT (k n : Int) (ins outs : List Int) : List Int × List Int × Int × Int :=
  if k = 1 then (match ins with | [] => (ins, outs, 0, 17) | z :: zs => (zs, outs, z, 0))
  else if k = 2 then (if 4096 ≤ ins.length then (ins, outs, 0, 5) else (n :: ins, outs, 0, 0))
  else if k = 3 then (if 4096 ≤ outs.length then (ins, outs, 0, 5) else (ins, outs ++ [n], 0, 0))
  else (match outs.getLast? with | none => (ins, outs, 0, 17) | some z => (ins, outs.dropLast, z, 0))
theorem grow_refl (F : Nat → Prop) (w : World) : grow F w w = F := by
  funext k; unfold grow
  apply propext
  constructor
  · rintro (h | h)
    · exact h
    · omega
  · intro h; exact .inl h
theorem grow_lt {F : Nat → Prop} {w w' : World} (h : ∀ k, F k → k < w.heap.size) (hs : w.heap.size ≤ w'.heap.size) : ∀ k, grow F w w' k → k < w'.heap.size := fun k hk => by
  rcases hk with h1 | h1
  · exact Nat.lt_of_lt_of_le (h k h1) hs
  · exact h1.2
/-- the end of an operation that has laid a new value into one field -/
theorem field_end {F : Nat → Prop} {w w1 : World} {p : Nat} {vin vout v' : Value} {ins outs l' : List Int} (first : Bool) (ht : TapeAt w p vin vout ins outs) (hFp : F p) (hFi : ∀ k, blk vin k → F k) (hFo : ∀ k, blk vout k → F k) (hFl : ∀ k, F k → k < w.heap.size)
    (hn : OwnI w1 v' l') (hb : ∀ k, blk v' k → blk (if first = true then vin else vout) k ∨ w.heap.size ≤ k) (hc : Chg (blk (if first = true then vin else vout)) w w1) :
    Tape (w1.setCell ⟨p, if first = true then 0 else 1, none⟩ v') (grow F w (w1.setCell ⟨p, if first = true then 0 else 1, none⟩ v')) p (if first = true then l' else ins) (if first = true then outs else l') ∧ Chg F w (w1.setCell ⟨p, if first = true then 0 else 1, none⟩ v') := by
  obtain ⟨h1, h2, h3, h4⟩ := ht
  have n1 := own_type h2 h1 (by decide)
  have n2 := own_type h3 h1 (by decide)
  have hp1 : w1.heap[p]? = some (.cells #[vin, vout] 48 (0, 0)) := (hc.block p (hFl p hFp) (by cases first <;> simp <;> assumption)).trans h1
  have n3 : ¬ blk v' p := own_type hn hp1 (by decide)
  have hcF : Chg F w w1 := hc.mono (fun k _ hk => by cases first <;> simp at hk <;> first | exact hFi k hk | exact hFo k hk)
  refine ⟨?_, hcF.setCell (a := ⟨p, _, none⟩) hFp _⟩
  have hsz : (w1.setCell ⟨p, if first = true then 0 else 1, none⟩ v').heap.size = w1.heap.size := by simp
  have key : ∀ k, k ≠ p → (w1.setCell ⟨p, if first = true then 0 else 1, none⟩ v').heap[k]? = w1.heap[k]? := fun k hk => Below.heap_setCell _ _ _ _ hk
  have hlt := hn.lt
  cases first
  · refine ⟨vin, v', ⟨?_, ?_, ?_, ?_⟩, .inl hFp, fun k hk => .inl (hFi k hk), fun k hk => ?_, grow_lt hFl (by rw [hsz]; exact hc.size)⟩
    · simp [World.setCell, hp1, Array.getElem?_modify]
    · exact (h2.chg hc h4).keep fun k hk => key k (fun e => n1 (e ▸ hk))
    · exact hn.keep fun k hk => key k (fun e => n3 (e ▸ hk))
    · intro k hk hk'
      rcases hb k hk' with hh | hh
      · exact h4 k hk hh
      · have := h2.lt k hk; omega
    · rcases hb k hk with hh | hh
      · exact .inl (hFo k hh)
      · exact .inr ⟨hh, by rw [hsz]; exact hlt k hk⟩
  · refine ⟨v', vout, ⟨?_, ?_, ?_, ?_⟩, .inl hFp, fun k hk => ?_, fun k hk => .inl (hFo k hk), grow_lt hFl (by rw [hsz]; exact hc.size)⟩
    · simp [World.setCell, hp1, Array.getElem?_modify]
    · exact hn.keep fun k hk => key k (fun e => n3 (e ▸ hk))
    · exact (h3.chg hc (fun k hk hk' => h4 k hk' hk)).keep fun k hk => key k (fun e => n2 (e ▸ hk))
    · intro k hk hk'
      rcases hb k hk with hh | hh
      · exact h4 k hh hk'
      · have := h3.lt k hk'; omega
    · rcases hb k hk with hh | hh
      · exact .inl (hFi k hh)
      · exact .inr ⟨hh, by rw [hsz]; exact hlt k hk⟩
/-- a slice that lost its first element -/
theorem OwnI.tail {w : World} {v : Value} {z : Int} {zs : List Int} (h : OwnI w v (z :: zs)) : ∃ g o c, v = .slice (some ⟨g, o, none⟩) (zs.length + 1) c ∧ zs.length + 1 ≤ c ∧ w.cell? ⟨g, o, none⟩ = some (.int .i64 z) ∧ OwnI w (.slice (some ⟨g, o + 1, none⟩) zs.length (c - 1)) zs := by
  rcases h with ⟨_, h⟩ | ⟨g, o, c, n, f, rfl, h1, h2, h3, h4, h5⟩
  · cases h
  · simp only [List.length_cons] at h2
    refine ⟨g, o, c, rfl, h2, ?_, .inr ⟨g, o + 1, c - 1, n, f, rfl, h1, by omega, by omega, by omega, fun i x hi => ?_⟩⟩
    · rw [h1.cell (by omega)]; have := h5 0 z rfl; rw [Nat.add_zero] at this; rw [this]
    · have := h5 (i + 1) x (by simpa using hi)
      rw [show o + 1 + i = o + (i + 1) by omega]; exact this
/-- a slice that lost its last element -/
theorem OwnI.init {w : World} {v : Value} {z : Int} {zs : List Int} (h : OwnI w v (zs ++ [z])) : ∃ g o c, v = .slice (some ⟨g, o, none⟩) (zs.length + 1) c ∧ zs.length + 1 ≤ c ∧ w.cell? ⟨g, o + zs.length, none⟩ = some (.int .i64 z) ∧ OwnI w (.slice (some ⟨g, o, none⟩) zs.length c) zs := by
  rcases h with ⟨_, h⟩ | ⟨g, o, c, n, f, rfl, h1, h2, h3, h4, h5⟩
  · simp at h
  · rw [List.length_append, List.length_singleton] at h2
    refine ⟨g, o, c, by rw [List.length_append]; rfl, h2, ?_, .inr ⟨g, o, c, n, f, rfl, h1, by omega, h3, h4, fun i x hi => ?_⟩⟩
    · rw [h1.cell (by omega), h5 zs.length z (by simp)]
    · have hlt : i < zs.length := (List.getElem?_eq_some_iff.1 hi).1
      exact h5 i x (by rw [List.getElem?_append_left hlt]; exact hi)
/-- the post of an operation -/
def OpPost (F : Nat → Prop) (w : World) (p : Nat) (ins outs : List Int) (er : Int) (w' : World) : Prop := Tape w' (grow F w w') p ins outs ∧ Chg F w w'
theorem OpPost.same {F : Nat → Prop} {w : World} {p : Nat} {ins outs : List Int} {er : Int} (h : Tape w F p ins outs) : OpPost F w p ins outs er w := ⟨by rw [grow_refl]; exact h, Chg.refl _ _⟩
theorem read_any (F : Nat → Prop) (p : Nat) (ins outs : List Int) (n : Int) (w : World) (h : Tape w F p ins outs) :
    Calls Try.prog 20 #[.pointer (some ⟨p, 0, none⟩)] w fun e w' => e = .returned (.tuple #[.int .i64 (stepT 1 n ins outs).2.2.1, .int .i64 (stepT 1 n ins outs).2.2.2]) ∧ OpPost F w p (stepT 1 n ins outs).1 (stepT 1 n ins outs).2.1 0 w' := by
  have H := Lib.hid h
  obtain ⟨vin, vout, ht, f1, f2, f3, f4⟩ := h
  have c0 : w.cell? ⟨p, 0, none⟩ = some vin := by rw [cell_of_row w p 0 _ _ _ ht.1]; rfl
  have z0 := frozen_of_row w p 0 _ _ ht.1
  cases ins with
  | nil =>
    obtain ⟨a, c, rfl, _⟩ := ht.2.1.val
    clear ht
    go_enter Try.func20, Try.ntmps20
    go_wp2
    go_ret2
    exact ⟨rfl, OpPost.same H.out⟩
  | cons z zs =>
    obtain ⟨g, o, c, rfl, hc, hcell, hown⟩ := ht.2.1.tail
    have HT := Lib.hid ht
    have HOWN := Lib.hid hown
    have hc2 : (1 : Int) ≤ (c : Int) := by omega
    have hc3 : (1 : Int) ≤ (zs.length : Int) + 1 := by omega
    have hF := And.intro f1 (And.intro f2 (And.intro f3 f4))
    have HF := Lib.hid hF
    clear ht hown f1 f2 f3 f4 hF
    by_cases hc1 : c = 1
    · subst hc1
      obtain rfl : zs = [] := List.length_eq_zero_iff.1 (by omega)
      have HOWN2 : Hid (OwnI w (.slice (some ⟨g, o, none⟩) 0 0) []) := Lib.hid (by
        rcases HOWN.out with ⟨h, _⟩ | ⟨g', o', c', n', f', e, h1, h2, h3, h4, h5⟩
        · cases h
        · cases e
          exact .inr ⟨g, o, 0, n', f', rfl, h1, Nat.le_refl _, by omega, by omega, fun i z hi => by simp at hi⟩)
      clear HOWN
      go_enter Try.func20, Try.ntmps20
      go_wp2
      go_ret2
      exact ⟨rfl, field_end true HT.out HF.out.1 HF.out.2.1 HF.out.2.2.1 HF.out.2.2.2 HOWN2.out (fun k hk => .inl hk) (Chg.refl _ _)⟩
    · go_enter Try.func20, Try.ntmps20
      go_wp2
      go_ret2
      exact ⟨rfl, field_end true HT.out HF.out.1 HF.out.2.1 HF.out.2.2.1 HF.out.2.2.2 HOWN.out (fun k hk => .inl hk) (Chg.refl _ _)⟩
theorem unwrite_any (F : Nat → Prop) (p : Nat) (ins outs : List Int) (n : Int) (w : World) (h : Tape w F p ins outs) (hlen : outs.length ≤ 65536) :
    Calls Try.prog 22 #[.pointer (some ⟨p, 0, none⟩)] w fun e w' => e = .returned (.tuple #[.int .i64 (stepT 4 n ins outs).2.2.1, .int .i64 (stepT 4 n ins outs).2.2.2]) ∧ OpPost F w p (stepT 4 n ins outs).1 (stepT 4 n ins outs).2.1 0 w' := by
  have H := Lib.hid h
  obtain ⟨vin, vout, ht, f1, f2, f3, f4⟩ := h
  have c0 : w.cell? ⟨p, 1, none⟩ = some vout := by rw [cell_of_row w p 1 _ _ _ ht.1]; rfl
  have z0 := frozen_of_row w p 1 _ _ ht.1
  rcases List.eq_nil_or_concat outs with rfl | ⟨zs, z, rfl⟩
  · obtain ⟨a, c, rfl, _⟩ := ht.2.2.1.val
    clear ht
    go_enter Try.func22, Try.ntmps22
    go_wp2
    go_ret2
    exact ⟨rfl, OpPost.same H.out⟩
  · rw [List.concat_eq_append] at *
    have hst : stepT 4 n ins (zs ++ [z]) = (ins, zs, z, 0) := by
      unfold stepT
      rw [if_neg (by decide), if_neg (by decide), if_neg (by decide)]
      simp
    rw [hst]
    obtain ⟨g, o, c, rfl, hc, hcell, hown⟩ := ht.2.2.1.init
    rw [List.length_append, List.length_singleton] at hlen
    have HT := Lib.hid ht
    have HOWN := Lib.hid hown
    have hc2 : (zs.length : Int) ≤ (c : Int) := by omega
    have hc3 : zs.length ≤ c := by omega
    have hw1 : IntKind.i64.wrap ((zs.length : Int) + 1 - 1) = (zs.length : Int) := by rw [IntWalk.i64_in _ (by omega)]; omega
    have hw2 : ((zs.length : Int) + 1 - 1) = (zs.length : Int) := by omega
    have hF := And.intro f1 (And.intro f2 (And.intro f3 f4))
    have HF := Lib.hid hF
    clear ht hown f1 f2 f3 f4 hF hst
    go_enter Try.func22, Try.ntmps22
    go_wp2
    go_ret2
    exact ⟨rfl, field_end false HT.out HF.out.1 HF.out.2.1 HF.out.2.2.1 HF.out.2.2.2 HOWN.out (fun k hk => .inl hk) (Chg.refl _ _)⟩
theorem unread_any (F : Nat → Prop) (p : Nat) (ins outs : List Int) (n : Int) (w : World) (h : Tape w F p ins outs) :
    Calls Try.prog 23 #[.pointer (some ⟨p, 0, none⟩), .int .i64 n] w fun e w' => e = .returned (.int .i64 (stepT 2 n ins outs).2.2.2) ∧ OpPost F w p (stepT 2 n ins outs).1 (stepT 2 n ins outs).2.1 0 w' := by
  have H := Lib.hid h
  obtain ⟨vin, vout, ht, f1, f2, f3, f4⟩ := h
  have c0 : w.cell? ⟨p, 0, none⟩ = some vin := by rw [cell_of_row w p 0 _ _ _ ht.1]; rfl
  have z0 := frozen_of_row w p 0 _ _ ht.1
  have HN := Lib.hid (own_type ht.2.1 ht.1 (by decide))
  have HT := Lib.hid ht
  have HF := Lib.hid (And.intro f1 (And.intro f2 (And.intro f3 f4)))
  clear ht f1 f2 f3 f4
  by_cases hf : 4096 ≤ ins.length
  · have hst : stepT 2 n ins outs = (ins, outs, 0, 5) := by unfold stepT; rw [if_neg (by decide), if_pos rfl, if_pos hf]
    rw [hst]
    go_enter Try.func23, Try.ntmps23
    go_wp2_with (go_at_call 26; refine (insert_full p 0 vin ins n _ _ c0 HT.out.2.1 hf).mono ?_; rintro e w' ⟨rfl, rfl⟩)
    go_ret
    exact ⟨rfl, OpPost.same H.out⟩
  · have hst : stepT 2 n ins outs = (n :: ins, outs, 0, 0) := by unfold stepT; rw [if_neg (by decide), if_pos rfl, if_neg hf]
    rw [hst]
    go_enter Try.func23, Try.ntmps23
    go_wp2_with (go_at_call 26; refine (insert_room true p 0 vin ins n 0 _ c0 z0 HT.out.2.1 HN.out hf rfl).mono ?_; rintro e w' ⟨rfl, v', w1, q1, q2, q3, rfl⟩; have HQ := Lib.hid (And.intro q1 (And.intro q2 q3)); clear q1 q2 q3)
    go_ret
    exact ⟨rfl, field_end true HT.out HF.out.1 HF.out.2.1 HF.out.2.2.1 HF.out.2.2.2 HQ.out.1 HQ.out.2.1 HQ.out.2.2⟩
theorem Tape.drewN {w : World} {F : Nat → Prop} {p : Nat} {ins outs : List Int} (h : Tape w F p ins outs) (n : Nat) : Tape (w.drewN n) F p ins outs := h.keep (below_drewN (Below.refl w.heap.size w) n).size (fun k hk => (below_drewN (Below.refl w.heap.size w) n).block k (by obtain ⟨_, _, _, _, _, _, h8⟩ := h; exact h8 k hk))
theorem OpPost.of_drew {F : Nat → Prop} {w w' : World} {p : Nat} {ins outs : List Int} {er : Int} (h : OpPost F w.drew p ins outs er w') : OpPost F w p ins outs er w' := ⟨h.1, ⟨h.2.os, h.2.tape, h.2.output, h.2.size, h.2.block⟩⟩
theorem write_any (F : Nat → Prop) (p : Nat) (ins outs : List Int) (n : Int) (w : World) (h : Tape w F p ins outs) :
    Calls Try.prog 21 #[.pointer (some ⟨p, 0, none⟩), .int .i64 n] w fun e w' => e = .returned (.int .i64 (stepT 3 n ins outs).2.2.2) ∧ OpPost F w p (stepT 3 n ins outs).1 (stepT 3 n ins outs).2.1 0 w' := by
  have H := Lib.hid (h.drewN 1)
  obtain ⟨vin, vout, ht, f1, f2, f3, f4⟩ := h
  have c0 : w.cell? ⟨p, 1, none⟩ = some vout := by rw [cell_of_row w p 1 _ _ _ ht.1]; rfl
  have z0 := frozen_of_row w p 1 _ _ ht.1
  obtain ⟨vin', vout', ht', f1', f2', f3', f4'⟩ := H.out
  have hvv : vout' = vout := by
    have h1 := ht'.1
    have h2 : w.heap[p]? = some (.cells #[vin', vout'] 48 (0, 0)) := h1
    rw [ht.1] at h2
    simp only [Option.some.injEq, Obj.cells.injEq] at h2
    have := h2.1
    simp at this
    exact this.2.symm
  subst hvv
  have HN := Lib.hid (own_type ht'.2.2.1 ht'.1 (by decide))
  have HT := Lib.hid ht'
  have HF := Lib.hid (And.intro f1' (And.intro f2' (And.intro f3' f4')))
  obtain ⟨a, c, rfl, _⟩ := ht.2.2.1.val
  clear ht f1 f2 f3 f4 ht' f1' f2' f3' f4'
  have c1 : w.drew.cell? ⟨p, 1, none⟩ = some (.slice a outs.length c) := c0
  have z1 : w.drew.frozen? ⟨p, 1, none⟩ = false := z0
  by_cases hf : 4096 ≤ outs.length
  · have hst : stepT 3 n ins outs = (ins, outs, 0, 5) := by unfold stepT; rw [if_neg (by decide), if_neg (by decide), if_pos rfl, if_pos hf]
    rw [hst]
    go_enter Try.func21, Try.ntmps21
    go_wp2
    go_region_with (first | (go_at_call 26; refine (insert_full p 1 _ outs n _ _ c1 HT.out.2.2.1 hf).mono ?_; rintro e w' ⟨rfl, rfl⟩))
    all_goals (go_wp2; go_ret; exact ⟨rfl, OpPost.of_drew (OpPost.same H.out)⟩)
  · have hst : stepT 3 n ins outs = (ins, outs ++ [n], 0, 0) := by unfold stepT; rw [if_neg (by decide), if_neg (by decide), if_pos rfl, if_neg hf]
    rw [hst]
    go_enter Try.func21, Try.ntmps21
    go_wp2
    go_region_with (first | (go_at_call 26; refine (insert_room false p 1 _ outs n _ _ c1 z1 HT.out.2.2.1 HN.out hf rfl).mono ?_; rintro e w' ⟨rfl, v', w1, q1, q2, q3, rfl⟩; have HQ := Lib.hid (And.intro q1 (And.intro q2 q3)); clear q1 q2 q3))
    all_goals (go_wp2; go_ret; exact ⟨rfl, OpPost.of_drew (field_end false HT.out HF.out.1 HF.out.2.1 HF.out.2.2.1 HF.out.2.2.2 HQ.out.1 HQ.out.2.1 HQ.out.2.2)⟩)
end Go.Proofs.Ythbeillgpnffmaa
