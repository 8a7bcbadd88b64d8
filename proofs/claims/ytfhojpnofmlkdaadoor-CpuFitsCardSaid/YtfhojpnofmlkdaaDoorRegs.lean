/- The regions of all instructions. -/
import Derived.Test.YtfhojpnofmlkdaaDoorRows
import Derived.WalkKit
import Derived.ProofKit
import Derived.OpenShut
import Derived.Below
import Derived.Lib.Hide
import Derived.Outline
import Derived.WalkLawsBesides
import Derived.WalkSpells
import Derived.WalkSmall
import Derived.IntWalk
import Derived.Deep.QuietTactic
import Derived.BigQuiet
import Derived.Deep.RegionHeld3
import Derived.StillTailTactics
import Derived.Handy
import Derived.Deep.Cut
import Derived.Deep.OwnRows
import Derived.Deep.RegionWith
import Derived.Test.YtfhojpnofmlkdaaDoorLast
namespace Go.Proofs.YtfhojpnofmlkdaaDoor
open Go.ChangeShapes Go.WideShapes Go.ChangeAt Go.RowKit
set_option linter.unusedSimpArgs false
set_option linter.unusedVariables false
set_option maxRecDepth 100000
set_option maxRecDepth 100000
theorem run_makeN {P : Program} (t e : TypeId) (z : Value) (size bytes : Nat) (ht : P.underlying t = some (.slice e)) (hinfo : (P.info? e).map (fun i => (i.zero, i.size, i.bytes)) = some (some z, size, bytes))
    (n : Nat) (hbytes : bytes * n ≤ 281474976710656) (h63 : n ≤ 9223372036854775807) (w : World) :
    (Instr.makeSlice t (.int .i64 (n : Int)) (.int .i64 (n : Int))).run P w = .ok (.slice (some ⟨w.heap.size, 0, none⟩) n n) (w.alloc (.cells (madeCells z.cells (n * size)) e)) := by
  obtain ⟨i, hi, hzz⟩ := Option.map_eq_some_iff.1 hinfo
  simp only [Prod.mk.injEq] at hzz
  obtain ⟨hz, hs, hb⟩ := hzz
  have hb' : (i.bytes : Int) * (n : Int) ≤ 281474976710656 := by
    have h : ((i.bytes * n : Nat) : Int) ≤ 281474976710656 := by rw [hb]; omega
    rwa [Int.natCast_mul] at h
  have hr := run_make (P := P) w t e i z ht hi hz .i64 .i64 n n (by omega) (Int.le_refl _) hb' (by omega)
  rw [hs] at hr
  simpa using hr
theorem Tryd.info108 : (Tryd.prog.info? 108).map (fun i => (i.zero, i.size, i.bytes)) = some (some (.agg #[.int .i64 0, .int .i64 0]), 2, 16) := by kernel_rfl
theorem Tryd.info3 : (Tryd.prog.info? 3).map (fun i => (i.zero, i.size, i.bytes)) = some (some (.int .i64 0), 1, 8) := by kernel_rfl
def isSt (l : List Ins) (i : Nat) : Bool := (part l i).isSome && ((l[i]?).map (·.k) == some 32)
def push (l : List Ins) (i : Nat) (st : List Nat) : List Nat := if isSt l i = true then i :: st else st
def stk (l : List Ins) : Nat → List Nat
  | 0 => []
  | i + 1 => pop l i (push l i (pop l i (stk l i)))
def regO (l : List Ins) (i : Nat) : Int × Int := (top (stk l (i + 1)), top (pop l i (stk l i)))
def regs (l : List Ins) : List (Int × Int) := (List.range l.length).map (regO l)
theorem pop_len (l : List Ins) (i : Nat) (st : List Nat) : (pop l i st).length ≤ st.length := List.IsSuffix.length_le (List.dropWhile_suffix _)
theorem push_len (l : List Ins) (i : Nat) (st : List Nat) : (push l i st).length ≤ st.length + 1 := by unfold push; split <;> simp
theorem stk_len (l : List Ins) (i : Nat) : (stk l i).length ≤ i := by
  induction i with
  | zero => exact Nat.le_refl _
  | succ i ih =>
    have h1 := pop_len l i (push l i (pop l i (stk l i)))
    have h2 := push_len l i (pop l i (stk l i))
    have h3 := pop_len l i (stk l i)
    show (pop l i (push l i (pop l i (stk l i)))).length ≤ i + 1
    omega
/-- the cells of the regions when k of them have been laid -/
def regF (l : List Ins) (k : Nat) (j : Nat) : Value := if j / 2 < k then .int .i64 (if j % 2 = 0 then (regO l (j / 2)).1 else (regO l (j / 2)).2) else .int .i64 0
theorem Box.push {w' : World} {B ob : Nat} {st : List Nat} {bs : Nat → Prop} {v' : Value} {s : Nat} (hv : w'.cell? ⟨ob, 0, none⟩ = some v') (hf : w'.frozen? ⟨ob, 0, none⟩ = false) (hown : w'.ownsRow B 3 1 v' (st.length + 1) (intsV st.reverse ++ [.int .i64 (s : Int)])) (hb : ∀ k, v'.ownBlock = some k → bs k) : Box w' B ob (s :: st) bs :=
  ⟨v', hv, hf, by rw [List.length_cons, List.reverse_cons]; have : intsV (st.reverse ++ [s]) = intsV st.reverse ++ [.int .i64 (s : Int)] := by simp [intsV]
                  rw [this]; exact hown, hb⟩
theorem regF_set (l : List Ins) (k j : Nat) : (if j = k * 2 + 1 then (Value.int .i64 (regO l k).2) else if j = k * 2 then .int .i64 (regO l k).1 else regF l k j) = regF l (k + 1) j := by
  unfold regF
  by_cases h1 : j = k * 2 + 1
  · subst h1
    rw [if_pos rfl, if_pos (by omega), if_neg (by omega), show (k * 2 + 1) / 2 = k by omega]
  · rw [if_neg h1]
    by_cases h2 : j = k * 2
    · subst h2
      rw [if_pos rfl, if_pos (by omega), if_pos (by omega), show (k * 2) / 2 = k by omega]
    · rw [if_neg h2]
      by_cases h3 : j / 2 < k
      · have h4 : j / 2 < k + 1 := by omega
        rw [if_pos h3, if_pos h4]
      · have h4 : ¬ j / 2 < k + 1 := by omega
        rw [if_neg h3, if_neg h4]
/-- what the walk over the instructions keeps: the stack's box, the row of the regions, the image's box -/
def RS (w : World) (ob ib gr n : Nat) (a : Option Addr) (cap : Nat) (m s : Int) (wr : World) (st : List Nat) (f : Nat → Value) : Prop :=
  Box wr w.heap.size ob st (fun j => ob < j) ∧ wr.rowIs gr 108 (n * 2) f ∧ (wr.cell? ⟨ib, 0, none⟩ = some (.slice a n cap) ∧ wr.cell? ⟨ib, 1, none⟩ = some (.int .i64 m) ∧ wr.cell? ⟨ib, 2, none⟩ = some (.int .i64 s)) ∧ Below w.heap.size w wr ∧ (w.heap.size ≤ ib ∧ ib < gr ∧ gr < ob)
theorem RS.img {w : World} {ob ib gr n : Nat} {a : Option Addr} {cap : Nat} {m s : Int} {wr : World} {st : List Nat} {f : Nat → Value} (h : RS w ob ib gr n a cap m s wr st f) : wr.cell? ⟨ib, 0, none⟩ = some (.slice a n cap) ∧ wr.cell? ⟨ib, 1, none⟩ = some (.int .i64 m) ∧ wr.cell? ⟨ib, 2, none⟩ = some (.int .i64 s) := h.2.2.1
theorem RS.bel {w : World} {ob ib gr n : Nat} {a : Option Addr} {cap : Nat} {m s : Int} {wr : World} {st : List Nat} {f : Nat → Value} (h : RS w ob ib gr n a cap m s wr st f) : Below w.heap.size w wr := h.2.2.2.1
theorem RS.box {w : World} {ob ib gr n : Nat} {a : Option Addr} {cap : Nat} {m s : Int} {wr : World} {st : List Nat} {f : Nat → Value} (h : RS w ob ib gr n a cap m s wr st f) : ∃ v, wr.cell? ⟨ob, 0, none⟩ = some v ∧ wr.frozen? ⟨ob, 0, none⟩ = false := by
  obtain ⟨⟨v, h1, h2, _⟩, _⟩ := h
  exact ⟨v, h1, h2⟩
theorem RS.lt {w : World} {ob ib gr n : Nat} {a : Option Addr} {cap : Nat} {m s : Int} {wr : World} {st : List Nat} {f : Nat → Value} (h : RS w ob ib gr n a cap m s wr st f) : ob < wr.heap.size ∧ ib < wr.heap.size ∧ gr < wr.heap.size := by
  obtain ⟨v, h1, h2⟩ := h.box
  have := World.block_lt_of_cell? wr _ h1
  have h3 := h.2.2.2.2
  simp only at this
  omega
theorem RS.below {w : World} {ob ib gr n : Nat} {a : Option Addr} {cap : Nat} {m s : Int} {wr w' : World} {st : List Nat} {f : Nat → Value} (h : RS w ob ib gr n a cap m s wr st f) (hb : Below wr.heap.size wr w') : RS w ob ib gr n a cap m s w' st f :=
  ⟨h.1.below hb, h.2.1.of_block (hb.block gr h.2.1.lt), ⟨cell_on hb h.img.1, cell_on hb h.img.2.1, cell_on hb h.img.2.2⟩, below_on h.bel hb, h.2.2.2.2⟩
theorem lastR {w : World} {ob ib gr n : Nat} {a : Option Addr} {cap : Nat} {m s : Int} {wr : World} {st : List Nat} {f : Nat → Value} {l : List Ins} (h : RS w ob ib gr n a cap m s wr st f) (hS : SliceC w a l) (hn : l.length = n) (hw : WF l) (hL : Laid w) (hst : st.length ≤ 60000) (i : Nat) :
    Calls Tryd.prog 71 #[.int .i64 i, .pointer (some ⟨ob, 0, none⟩), .pointer (some ⟨ib, 0, none⟩)] wr fun e w' => e = .returned (.int .i64 (top (pop l i st))) ∧ RS w ob ib gr n a cap m s w' (pop l i st) f ∧ Chg (fun k => k = ob) wr w' := by
  have hz := h.2.2.2.2
  refine (last_any ob ib w.heap.size a n cap m s l i st (fun j => ob < j) w wr rfl h.1 (Nat.lt_irrefl _) (by omega) (by omega) h.img.1 h.img.2.1 h.img.2.2 hS hn hw hL h.bel hst).mono ?_
  rintro e w' ⟨rfl, hb, hc⟩
  exact ⟨rfl, ⟨hb, h.2.1.of_block (hc.block gr h.2.1.lt (by omega)), ⟨hc.cell (by omega) h.img.1, hc.cell (by omega) h.img.2.1, hc.cell (by omega) h.img.2.2⟩, h.bel.trans (hc.below (fun k e => by omega) h.bel.size), hz⟩, hc⟩
theorem partnerR {w : World} {ob ib gr n : Nat} {a : Option Addr} {cap : Nat} {m s : Int} {wr : World} {st : List Nat} {f : Nat → Value} {l : List Ins} (h : RS w ob ib gr n a cap m s wr st f) (hS : SliceC w a l) (hn : l.length = n) (hw : WF l) (hL : Laid w) (i : Int) :
    Calls Tryd.prog 72 #[.agg #[.slice a n cap, .int .i64 m, .int .i64 s], .int .i64 i] wr fun e w' => e = .returned (.tuple #[.int .i64 ((part l i).getD 0), .bool (part l i).isSome]) ∧ RS w ob ib gr n a cap m s w' st f ∧ Below wr.heap.size wr w' := by
  refine (partner_any a n cap l m s i wr (hS.below h.bel) hn hw (hL.below h.bel)).mono ?_
  rintro e w' ⟨rfl, hb⟩
  exact ⟨rfl, h.below hb, hb⟩
/-- an entry of the regions is laid -/
theorem RS.lay {w : World} {ob ib gr n k : Nat} {a : Option Addr} {cap : Nat} {m s : Int} {wr : World} {st : List Nat} {l : List Ins} (h : RS w ob ib gr n a cap m s wr st (regF l k)) (hk : k < n) :
    (wr.cell? ⟨gr, k * 2, none⟩ = some (regF l k (k * 2)) ∧ wr.cell? ⟨gr, k * 2 + 1, none⟩ = some (regF l k (k * 2 + 1)) ∧ wr.frozen? ⟨gr, k * 2, none⟩ = false ∧ wr.frozen? ⟨gr, k * 2 + 1, none⟩ = false) ∧
    RS w ob ib gr n a cap m s ((wr.setCell ⟨gr, k * 2, none⟩ (.int .i64 (regO l k).1)).setCell ⟨gr, k * 2 + 1, none⟩ (.int .i64 (regO l k).2)) st (regF l (k + 1)) := by
  obtain ⟨hb, hr, hi, hbw, hz⟩ := h
  refine ⟨⟨hr.cell (by omega), hr.cell (by omega), hr.frozen _, hr.frozen _⟩, ?_, ?_, ?_, ?_, hz⟩
  · obtain ⟨v, h1, h2, h3, h4⟩ := hb
    refine ⟨v, set_past (by omega) (set_past (by omega) h1), by rw [World.frozen?_setCell, World.frozen?_setCell]; exact h2, own_keep h3 (fun j hj => ?_), h4⟩
    have := h4 j hj
    rw [Below.heap_setCell _ _ _ _ (by show j ≠ gr; omega), Below.heap_setCell _ _ _ _ (by show j ≠ gr; omega)]
  · exact ((hr.set (k * 2) _).set (k * 2 + 1) _).congr fun j _ => (regF_set l k j)
  · exact ⟨set_past (by omega) (set_past (by omega) hi.1), set_past (by omega) (set_past (by omega) hi.2.1), set_past (by omega) (set_past (by omega) hi.2.2)⟩
  · exact (hbw.setCell (p := ⟨gr, k * 2, none⟩) (by show w.heap.size ≤ gr; omega) _).setCell (p := ⟨gr, k * 2 + 1, none⟩) (by show w.heap.size ≤ gr; omega) _
/-- the append of one number to the stack, and the store of what came out -/
theorem wpList_pushR {ops : Array Oper} {rest : List Oper} {o : Oper} {ac : Act} {Q : Exit → Act → World → Prop} {w : World} {ob ib gr n : Nat} {a : Option Addr} {cap : Nat} {m s : Int} {wr : World} {st : List Nat} {f : Nat → Value} (hgd : o.guard = none) (sl x : Operand) (ho : o.op = .call { callee := .builtin .append, args := #[sl, x], argTypes := #[26, 26] })
    (h : RS w ob ib gr n a cap m s wr st f) (v : Value) (hv : wr.cell? ⟨ob, 0, none⟩ = some v) (hsl : ac.eval sl = v) (b c k : Nat) (hx : ac.eval x = .slice (some ⟨b, 0, none⟩) 1 c) (hc : wr.cell? ⟨b, 0, none⟩ = some (.int .i64 (k : Int))) (hst : st.length ≤ 60000)
    (hK : ∀ aa nn cc w', (w'.cell? ⟨ob, 0, none⟩ = some v ∧ w'.frozen? ⟨ob, 0, none⟩ = false) → RS w ob ib gr n a cap m s (w'.setCell ⟨ob, 0, none⟩ (.slice aa nn cc)) (k :: st) f → wpList Tryd.prog ops Q rest (ac.put o.dst (.slice aa nn cc)) w') : wpList Tryd.prog ops Q (o :: rest) ac wr := by
  obtain ⟨i0, hi, hz0, hz1, hz2⟩ := info_parts Tryd.info3
  have hlt := h.lt
  obtain ⟨⟨v0, h1, h2, h3, h4⟩, hr, hi3, hbw, hz⟩ := h
  rw [hv] at h1; cases h1
  refine wpList_append_own_at (P := Tryd.prog) wr hgd sl x 26 ho w.heap.size 3 i0 (.int .i64 0) 1 8 Tryd.underlying26 hi hz0 hz1 hz2 rfl (by decide) v st.length _ hsl h3 ⟨b, 0, none⟩ 1 c [.int .i64 (k : Int)] hx rfl (fun j u hj => ?_) (by simp [Value.oneCell']) (by unfold maxLen; omega) (by omega) hbw.size ?_
  · rw [Addr.add_lit, Nat.zero_add]
    match j, hj with
    | 0, hj => cases hj; exact hc
    | j + 1, hj => simp at hj
  · intro v' w' k1 k2 _ k3
    have hne : ∀ j, j ≤ ob → w'.heap[j]? = wr.heap[j]? := fun j hj => k2.block j (by omega) (fun e => by have := h4 j e.symm; omega)
    have g1 : w'.cell? ⟨ob, 0, none⟩ = some v := by rw [World.cell?_of_block (w := wr) (hne ob (Nat.le_refl _))]; exact hv
    have g2 : w'.frozen? ⟨ob, 0, none⟩ = false := by rw [← h2]; unfold World.frozen?; rw [hne ob (Nat.le_refl _)]
    have hlt2 := k2.size
    have hv' : ∀ j, v'.ownBlock = some j → ob < j := fun j hj => by
      rcases k3 with k3 | k3
      · exact h4 j (k3 ▸ hj)
      · rw [k3] at hj; cases hj; exact hlt.1
    have hb := hbw.grown k2 hbw.size (fun j hj => (h3.lt j hj).1)
    obtain ⟨aa, nn, cc, rfl⟩ : ∃ aa nn cc, v' = .slice aa nn cc := by
      rcases k1.2 with ⟨rfl, _⟩ | ⟨g, cp, cur, rfl, _⟩
      · exact ⟨_, _, _, rfl⟩
      · exact ⟨_, _, _, rfl⟩
    refine hK aa nn cc w' ⟨g1, g2⟩ ⟨Box.push (World.cell?_setCell_same _ _ _ g1) (by rw [World.frozen?_setCell]; exact g2) (own_keep k1 (fun j hj => Below.heap_setCell _ _ _ _ (by have := hv' j hj; show j ≠ ob; omega))) hv', ?_, ?_, hb.setCell (p := ⟨ob, 0, none⟩) (by show w.heap.size ≤ ob; omega) _, hz⟩
    · exact hr.of_block (by rw [Below.heap_setCell _ _ _ _ (by show gr ≠ ob; omega)]; exact hne gr (by omega))
    · have hk : ∀ o v, wr.cell? ⟨ib, o, none⟩ = some v → (w'.setCell ⟨ob, 0, none⟩ (.slice aa nn cc)).cell? ⟨ib, o, none⟩ = some v := fun o v hc => set_past (by omega) (by rw [World.cell?_of_block (w := wr) (hne ib (by omega))]; exact hc)
      exact ⟨hk _ _ hi3.1, hk _ _ hi3.2.1, hk _ _ hi3.2.2⟩
theorem lt_len' {l : List (Int × Int)} {i : Nat} {x : Int × Int} (hi : l[i]? = some x) : i < l.length := (List.getElem?_eq_some_iff.1 hi).1
set_option maxRecDepth 100000 in
set_option maxHeartbeats 4000000 in
theorem regionsOf_any (a : Option Addr) (n cap : Nat) (m s : Int) (l : List Ins) (w : World) (h : SliceC w a l) (hn : l.length = n) (hw : WF l) (hL : Laid w) (hn2 : n ≤ 300) :
    Calls Tryd.prog 59 #[.agg #[.slice a n cap, .int .i64 m, .int .i64 s]] w fun e w' => ∃ g, e = .returned (.slice (some ⟨g, 0, none⟩) n n) ∧ SliceR w' (some ⟨g, 0, none⟩) (regs l) ∧ Below w.heap.size w w' := by
  have HS := Lib.hid h
  have HL := Lib.hid hL
  clear h hL
  have hmake := fun w => run_makeN (P := Tryd.prog) 91 108 (.agg #[.int .i64 0, .int .i64 0]) 2 16 Tryd.underlying91 Tryd.info108 n (by omega) (by omega) w
  go_enter Tryd.func59, Tryd.ntmps59
  go_wp2
  clear hmake
  obtain ⟨W, hW⟩ : ∃ W, W = (((w.alloc (.cells #[.slice a n cap, .int .i64 m, .int .i64 s] 24)).alloc (.cells (madeCells #[.int .i64 0, .int .i64 0] (n * 2)) 108)).alloc (.cells #[.slice none 0 0] 26)) := ⟨_, rfl⟩
  have hsz : W.heap.size = w.heap.size + 3 := by rw [hW]; simp
  have i0 : W.cell? ⟨w.heap.size, 0, none⟩ = some (.slice a n cap) := by rw [hW]; go_simp
  have i1 : W.cell? ⟨w.heap.size, 1, none⟩ = some (.int .i64 m) := by rw [hW]; go_simp
  have i2 : W.cell? ⟨w.heap.size, 2, none⟩ = some (.int .i64 s) := by rw [hW]; go_simp
  have o0 : W.cell? ⟨w.heap.size + 1 + 1, 0, none⟩ = some (.slice none 0 0) := by rw [hW]; go_simp
  have o1 : W.frozen? ⟨w.heap.size + 1 + 1, 0, none⟩ = false := by rw [hW]; go_simp
  have hrow : W.rowIs (w.heap.size + 1) 108 (n * 2) (regF l 0) := by
    have hg : W.heap[w.heap.size + 1]? = some (.cells (madeCells #[.int .i64 0, .int .i64 0] (n * 2)) 108) := by
      rw [hW, Below.heap_alloc _ _ _ (by simp)]
      have := heap_alloc_new (w.alloc (.cells #[.slice a n cap, .int .i64 m, .int .i64 s] 24)) (.cells (madeCells #[.int .i64 0, .int .i64 0] (n * 2)) 108)
      simpa using this
    refine ⟨_, hg, size_madeCells _ _, fun i hi => ?_⟩
    unfold regF
    rw [if_neg (by omega)]
    have h2 : i % 2 = 0 ∨ i % 2 = 1 := by omega
    rcases h2 with h2 | h2 <;> simp [madeCells, hi, h2]
  have hbW : Below w.heap.size w W := by rw [hW]; exact (((Below.refl _ _).alloc (Nat.le_refl _) _).alloc (by simp) _).alloc (by simp; omega) _
  rw [← hW]
  clear hW
  obtain ⟨ib, hib⟩ : ∃ x, x = w.heap.size := ⟨_, rfl⟩
  obtain ⟨gr, hgr⟩ : ∃ x, x = w.heap.size + 1 := ⟨_, rfl⟩
  obtain ⟨ob, hob⟩ : ∃ x, x = w.heap.size + 1 + 1 := ⟨_, rfl⟩
  rw [← hob] at o0 o1
  rw [← hgr] at hrow
  rw [← hib] at i0 i1 i2
  have HBX : Hid (RS w ob ib gr n a cap m s W [] (regF l 0)) := Lib.hid ⟨⟨_, o0, o1, World.ownsRow_nil _ _ _ _, fun k hk => by cases hk⟩, hrow, ⟨i0, i1, i2⟩, hbW, by omega⟩
  rw [← hob, ← hgr, ← hib]
  clear hib hgr hob i0 i1 i2 o0 o1 hrow hbW hsz
  go_loopw [19] (fun x wr => ∃ k : Nat, k ≤ n ∧ x = .int .i64 k ∧ Hid (RS w ob ib gr n a cap m s wr (stk l k) (regF l k))) (fun x _ => n - (intOf x).toNat)
  case atStart => exact ⟨0, by omega, rfl, HBX⟩
  case round =>
    clear HBX
    obtain ⟨k, hk, rfl, HR⟩ := hrel
    by_cases hkn : k < n
    · have hdl : (k : Int) < (n : Int) := by omega
      obtain ⟨x, hx⟩ : ∃ x, l[k]? = some x := ⟨_, List.getElem?_eq_getElem (show k < l.length by omega)⟩
      obtain ⟨b0, q0, ha0, hbl0, c0, c1, c2, c3, c4⟩ := (HS.out.below HR.out.bel).at hx
      subst ha0
      obtain ⟨p, hp⟩ : ∃ p, part l (k : Int) = p := ⟨_, rfl⟩
      have HP := Lib.hid hp
      have hst := stk_len l k
      have hst1 := pop_len l k (stk l k)
      have hst2 := push_len l k (pop l k (stk l k))
      have HXK := Lib.hid (show isSt l k = (p.isSome && (x.k == 32)) by unfold isSt; rw [hp, hx]; rfl)
      have hR0 := HR.out.below ((Below.refl _ _).alloc (Nat.le_refl _) (.cells #[.int .u8 x.k, .int .i64 x.a, .int .i64 x.b, .int .i64 x.c, .int .i64 x.d] 47))
      have hlt := HR.out.lt
      have g0 : (wr.alloc (.cells #[.int .u8 x.k, .int .i64 x.a, .int .i64 x.b, .int .i64 x.c, .int .i64 x.d] 47)).cell? ⟨wr.heap.size, 0, none⟩ = some (.int .u8 x.k) := by go_simp
      have hGo : ¬ wr.heap.size = ob := by omega
      have HR0 := Lib.hid hR0
      obtain ⟨d0, d1, d2⟩ := HR.out.img
      have hib := hlt.2.1
      clear hp hR0 hx hlt
      have finA : stk l (k + 1) = pop l k (push l k (pop l k (stk l k))) := rfl
      have HFA := Lib.hid finA
      clear finA
      cases hst0 : isSt l k
      · have hpush : push l k (pop l k (stk l k)) = pop l k (stk l k) := by unfold push; rw [hst0]; rfl
        have HPU := Lib.hid hpush
        have hb0 := HXK.out.symm.trans hst0
        clear hpush hst0
        cases p with
        | none =>
          clear hb0
          go_wp2_with (first | (go_at_call 71; refine (lastR HR0.out HS.out hn hw HL.out (by omega) k).mono ?_; rintro e w2 ⟨rfl, hr, hch⟩; have HR2 := Lib.hid hr; have gk := hch.cell hGo g0; obtain ⟨d0, d1, d2⟩ := HR2.out.img; have hib2 := HR2.out.lt.2.1; clear HR0 hr hch) | (go_at_call 72; refine (partnerR HR2.out HS.out hn hw HL.out (k : Int)).mono ?_; rw [HP.out]; rintro e w3 ⟨rfl, hr, hb⟩; have HR3 := Lib.hid hr; have gk3 := cell_on hb gk; obtain ⟨vv, hvv, hff⟩ := HR3.out.box; obtain ⟨f0, f1, f2⟩ := HR3.out.img; have HR4 := Lib.hid (show RS w ob ib gr n _ cap m s w3 (push l k (pop l k (stk l k))) (regF l k) by rw [HPU.out]; exact hr); have hlt3 := HR3.out.lt.1; clear HR2 hr hb) | (go_at_call 71; go_loud (refine (lastR HR4.out HS.out hn hw HL.out (by omega) k).mono ?_; rintro e w5 ⟨rfl, hr, hch⟩; rw [← HFA.out] at hr; obtain ⟨⟨z0, z1, z2, z3⟩, hlay⟩ := hr.lay hkn; have HLY := Lib.hid hlay; rw [← HFA.out]; clear hr hch hlay)))
          go_roundw
          case rel => exact ⟨k + 1, by omega, by go_num, HLY⟩
          case measure => simp [intOf]; omega
        | some t =>
          have hbx : (x.k == 32) = false := by simpa using hb0
          clear hb0
          go_wp2_with (first | (go_at_call 71; refine (lastR HR0.out HS.out hn hw HL.out (by omega) k).mono ?_; rintro e w2 ⟨rfl, hr, hch⟩; have HR2 := Lib.hid hr; have gk := hch.cell hGo g0; obtain ⟨d0, d1, d2⟩ := HR2.out.img; have hib2 := HR2.out.lt.2.1; clear HR0 hr hch) | (go_at_call 72; refine (partnerR HR2.out HS.out hn hw HL.out (k : Int)).mono ?_; rw [HP.out]; rintro e w3 ⟨rfl, hr, hb⟩; have HR3 := Lib.hid hr; have gk3 := cell_on hb gk; obtain ⟨vv, hvv, hff⟩ := HR3.out.box; obtain ⟨f0, f1, f2⟩ := HR3.out.img; have HR4 := Lib.hid (show RS w ob ib gr n _ cap m s w3 (push l k (pop l k (stk l k))) (regF l k) by rw [HPU.out]; exact hr); have hlt3 := HR3.out.lt.1; clear HR2 hr hb) | (go_at_call 71; go_loud (refine (lastR HR4.out HS.out hn hw HL.out (by omega) k).mono ?_; rintro e w5 ⟨rfl, hr, hch⟩; rw [← HFA.out] at hr; obtain ⟨⟨z0, z1, z2, z3⟩, hlay⟩ := hr.lay hkn; have HLY := Lib.hid hlay; rw [← HFA.out]; clear hr hch hlay)))
          go_roundw
          case rel => exact ⟨k + 1, by omega, by go_num, HLY⟩
          case measure => simp [intOf]; omega
      · have hpush : push l k (pop l k (stk l k)) = k :: pop l k (stk l k) := by unfold push; rw [hst0]; rfl
        have HPU := Lib.hid hpush
        have hb0 := HXK.out.symm.trans hst0
        clear hpush hst0
        cases p with
        | none => cases hb0
        | some t =>
          have HXX := Lib.hid (show (x.k == 32) = true by simpa using hb0)
          clear hb0
          go_wp2_with (first | (go_at_call 71; refine (lastR HR0.out HS.out hn hw HL.out (by omega) k).mono ?_; rintro e w2 ⟨rfl, hr, hch⟩; have HR2 := Lib.hid hr; have gk := hch.cell hGo g0; obtain ⟨d0, d1, d2⟩ := HR2.out.img; have hib2 := HR2.out.lt.2.1; clear HR0 hr hch) | (go_at_call 72; refine (partnerR HR2.out HS.out hn hw HL.out (k : Int)).mono ?_; rw [HP.out]; rintro e w3 ⟨rfl, hr, hb⟩; have HR3 := Lib.hid hr; have gk3 := cell_on hb gk; obtain ⟨vv, hvv, hff⟩ := HR3.out.box; obtain ⟨f0, f1, f2⟩ := HR3.out.img; have hbx := HXX.out; have hlt3 := HR3.out.lt.1; clear HR2 hr hb) | (at_builtin; go_loud (refine wpList_pushR rfl _ _ rfl (HR3.out.below ((Below.refl _ _).alloc (Nat.le_refl _) (.cells #[.int .i64 (k : Int)] 3))) vv (by go_simp) rfl w3.heap.size 1 k rfl (by go_simp) (by omega) ?_; intro aa nn cc w4 hob4 hr4; have HR4 := Lib.hid (show RS w ob ib gr n _ cap m s (w4.setCell ⟨ob, 0, none⟩ (.slice aa nn cc)) (push l k (pop l k (stk l k))) (regF l k) by rw [HPU.out]; exact hr4); obtain ⟨y1, y2⟩ := hob4; clear hr4)) | (go_at_call 71; go_loud (refine (lastR HR4.out HS.out hn hw HL.out (by omega) k).mono ?_; rintro e w5 ⟨rfl, hr, hch⟩; rw [← HFA.out] at hr; obtain ⟨⟨z0, z1, z2, z3⟩, hlay⟩ := hr.lay hkn; have HLY := Lib.hid hlay; rw [← HFA.out]; clear hr hch hlay)))
          go_roundw
          case rel => exact ⟨k + 1, by omega, by go_num, HLY⟩
          case measure => simp [intOf]; omega
    · obtain rfl : k = n := by omega
      go_wp2
      go_ret
      refine ⟨gr, rfl, fun hne => ⟨gr, 0, rfl, HR.out.lt.2.2, fun i y hi => ?_⟩, HR.out.bel⟩
      have hil : i < l.length := by have := lt_len' hi; simpa [regs] using this
      have hyy : y = regO l i := by
        unfold regs at hi
        rw [List.getElem?_map, List.getElem?_range hil] at hi
        simpa using hi.symm
      subst hyy
      have hrr := HR.out.2.1
      rw [Nat.zero_add, hrr.cell (by omega), hrr.cell (by omega)]
      unfold regF
      rw [if_pos (by omega), if_pos (by omega), show i * 2 / 2 = i by omega, show (i * 2 + 1) / 2 = i by omega, if_pos (by omega), if_neg (by omega)]
      exact ⟨rfl, rfl⟩
end Go.Proofs.YtfhojpnofmlkdaaDoor
