/- A value is taken out of the boxes: what it needs of them is not written any more. -/
import Derived.Test.YtfhojpnofmlkdaaDoorPvG
namespace Go.Proofs.YtfhojpnofmlkdaaDoor.Pv
open Go.RowKit
set_option linter.unusedSimpArgs false
set_option linter.unusedVariables false
set_option maxHeartbeats 1000000

def fzL (f : List Box → PV → Option (PV × List Box)) : List Box → List PV → Option (List PV × List Box)
  | hp, [] => some ([], hp)
  | hp, c :: cs =>
    match f hp c with
    | some (c', hp1) => match fzL f hp1 cs with | some (cs', hp2) => some (c' :: cs', hp2) | none => none
    | none => none
def elemOf (sz : Nat) (cs : List PV) : PV := match cs with | [c] => if sz = 1 ∧ c.atom = true then c else .agg [c] | cs => .agg cs
def chunk (sz : Nat) : Nat → List PV → List PV
  | 0, _ => []
  | n + 1, cs => elemOf sz (cs.take sz) :: chunk sz n (cs.drop sz)
def fz : Nat → List Box → PV → Option (PV × List Box)
  | 0, _, _ => none
  | d + 1, hp, v =>
    match v with
    | .agg cs => match fzL (fz d) hp cs with | some (l, hp') => some (.agg l, hp') | none => none
    | .tup cs => match fzL (fz d) hp cs with | some (l, hp') => some (.tup l, hp') | none => none
    | .fn f cs => match fzL (fz d) hp cs with | some (l, hp') => some (.fn f l, hp') | none => none
    | .ifc t x => match fz d hp x with | some (x', hp') => some (.ifc t x', hp') | none => none
    | .ptr _ _ => none
    | .sl id sz off len =>
      match hp[id]? with
      | some bx =>
        if bx.sz = sz ∧ 0 < sz ∧ (off + len) * sz ≤ bx.cells.length then
          if bx.st = 0 then
            match fzL (fz d) hp bx.cells with
            | some (cs', hp1) =>
              match hp1[id]? with
              | some b1 => if b1.st = 0 then some (.lst sz (chunk sz len (cs'.drop (off * sz))), hp1.set id ⟨sz, cs', 1⟩) else none
              | none => none
            | none => none
          else if bx.st = 1 then some (.lst sz (chunk sz len (bx.cells.drop (off * sz))), hp) else none
        else none
      | none => none
    | .own _ sz es => some (.lst sz es, hp)
    | v => some (v, hp)

/-- a step that only comes to know -/
structure Kn (B : Nat → Prop) (H : GH) (ρ : RM) (w : World) (hp : List Box) (H' : GH) (hp' : List Box) : Prop where
  hH : H.le H'
  old : ∀ b o v, B b → H' b o = some v → H b o = some v
  wr : WR B H' ρ w hp'
  len : hp'.length = hp.length
  st : ∀ (id : Nat) (bx' : Box), hp'[id]? = some bx' → ∃ bx : Box, hp[id]? = some bx ∧ bx.st ≤ bx'.st
theorem Kn.refl {B : Nat → Prop} {H : GH} {ρ : RM} {w : World} {hp : List Box} (h : WR B H ρ w hp) : Kn B H ρ w hp H hp := ⟨.refl _, fun _ _ _ _ h => h, h, rfl, fun _ b h => ⟨b, h, Nat.le_refl _⟩⟩
theorem Kn.trans {B : Nat → Prop} {H H' H'' : GH} {ρ : RM} {w : World} {hp hp' hp'' : List Box} (h : Kn B H ρ w hp H' hp') (k : Kn B H' ρ w hp' H'' hp'') : Kn B H ρ w hp H'' hp'' :=
  ⟨h.hH.trans k.hH, fun b o v hb hv => h.old b o v hb (k.old b o v hb hv), k.wr, k.len.trans h.len, fun id b hb => by
    obtain ⟨b1, h1, h2⟩ := k.st id b hb
    obtain ⟨b2, h3, h4⟩ := h.st id b1 h1
    exact ⟨b2, h3, Nat.le_trans h4 h2⟩⟩

theorem fzL_sound {B : Nat → Prop} {ρ : RM} {w : World} {f : List Box → PV → Option (PV × List Box)} (hf : ∀ (H : GH) hp v p p' hp', WR B H ρ w hp → Rel H ρ v p → f hp p = some (p', hp') → ∃ H', Kn B H ρ w hp H' hp' ∧ Rel H' RM.nil v p') :
    ∀ (cs : List PV) (vs : List Value) (H : GH) (hp : List Box) (cs' : List PV) (hp' : List Box), WR B H ρ w hp → vs.length = cs.length → (∀ (i : Nat) v c, vs[i]? = some v → cs[i]? = some c → Rel H ρ v c) → fzL f hp cs = some (cs', hp') →
      ∃ H', Kn B H ρ w hp H' hp' ∧ cs'.length = cs.length ∧ ∀ (i : Nat) v c, vs[i]? = some v → cs'[i]? = some c → Rel H' RM.nil v c := by
  intro cs
  induction cs with
  | nil =>
    intro vs H hp cs' hp' hw hl _ h
    simp only [fzL] at h; cases h
    exact ⟨H, .refl hw, rfl, fun i v c _ hc => by simp at hc⟩
  | cons c cs ih =>
    intro vs H hp cs' hp' hw hl hr h
    simp only [fzL] at h
    cases vs with
    | nil => simp at hl
    | cons v vs =>
      split at h
      · rename_i c' hp1 h1
        split at h
        · rename_i l hp2 h2
          cases h
          obtain ⟨H1, k1, r1⟩ := hf H hp v c c' hp1 hw (hr 0 v c rfl rfl) h1
          obtain ⟨H2, k2, l2, r2⟩ := ih vs H1 hp1 l _ k1.wr (by simpa using hl) (fun i v c h3 h4 => (hr (i + 1) v c h3 h4).mono k1.hH (.refl _)) h2
          refine ⟨H2, k1.trans k2, by simp [l2], fun i u q hu hq => ?_⟩
          cases i with
          | zero => simp at hu hq; subst hu; subst hq; exact r1.mono k2.hH (.refl _)
          | succ i => exact r2 i u q hu hq
        · cases h
      · cases h

theorem chunk_len (sz : Nat) : ∀ (n : Nat) (cs : List PV), (chunk sz n cs).length = n := by
  intro n; induction n with
  | zero => intro cs; rfl
  | succ n ih => intro cs; simp [chunk, ih]
theorem chunk_at (sz : Nat) : ∀ (n : Nat) (cs : List PV) (i : Nat), i < n → (chunk sz n cs)[i]? = some (elemOf sz ((cs.drop (i * sz)).take sz)) := by
  intro n; induction n with
  | zero => intro cs i h; omega
  | succ n ih =>
    intro cs i h
    cases i with
    | zero => simp [chunk]
    | succ i =>
      simp only [chunk, List.getElem?_cons_succ]
      rw [ih _ i (by omega), List.drop_drop]
      rw [show sz + i * sz = (i + 1) * sz by rw [Nat.add_mul]; omega]
theorem elemOf_cells (sz : Nat) (cs : List PV) : (elemOf sz cs).cells? = some cs := by
  unfold elemOf
  split
  · rename_i c
    split
    · rename_i e
      obtain ⟨_, e⟩ := e
      cases c <;> first | rfl | cases e
    · rfl
  · rfl
/-- a part of an array whose cells are known for good -/
theorem chunk_rel {H : GH} {ρ : RM} {sz len off b cap : Nat} {cs : List PV} {vs : Nat → Option Value} (hz : 0 < sz) (hl : (off + len) * sz ≤ cs.length) (hH : ∀ (j : Nat) c, cs[j]? = some c → ∃ v, H b j = some v ∧ Rel H RM.nil v c) (hc : off + len ≤ cap) :
    Rel H ρ (.slice (some ⟨b, off * sz, none⟩) len (cap - off)) (.lst sz (chunk sz len (cs.drop (off * sz)))) := by
  have key : ∀ j, j < cs.length → ∃ v, H b j = some v ∧ ∀ c, cs[j]? = some c → Rel H RM.nil v c := fun j hj => by
    obtain ⟨v, h1, h2⟩ := hH j _ (List.getElem?_eq_getElem hj)
    exact ⟨v, h1, fun c hc => by rw [List.getElem?_eq_getElem hj] at hc; cases hc; exact h2⟩
  have hm : (off + len) * sz = off * sz + len * sz := Nat.add_mul _ _ _
  have e := Rel.lst (H := H) (ρ := ρ) (some ⟨b, off * sz, none⟩) (cap - off) sz (chunk sz len (cs.drop (off * sz))) b (off * sz) (fun j => (H b (off * sz + j)).getD undef) (fun i => (((cs.drop (off * sz)).drop (i * sz)).take sz)) (by rw [chunk_len]; omega) (fun _ => rfl) (fun j hj => by
    rw [chunk_len] at hj
    obtain ⟨v, h1, _⟩ := key (off * sz + j) (by omega)
    simp [h1]) (fun i e he => by
    have hi : i < len := by have := (List.getElem?_eq_some_iff.1 he).1; rw [chunk_len] at this; exact this
    rw [chunk_at sz len _ i hi] at he
    cases he
    refine ⟨elemOf_cells _ _, ?_⟩
    have : i * sz + sz ≤ len * sz := by rw [← Nat.succ_mul]; exact Nat.mul_le_mul_right _ hi
    simp; omega) (fun i j c hi hj => by
    rw [chunk_len] at hi
    have : i * sz + sz ≤ len * sz := by rw [← Nat.succ_mul]; exact Nat.mul_le_mul_right _ hi
    rw [List.getElem?_take] at hj
    split at hj
    · rw [List.getElem?_drop, List.getElem?_drop] at hj
      have hlt := (List.getElem?_eq_some_iff.1 hj).1
      obtain ⟨v, h1, h2⟩ := key _ hlt
      show Rel H RM.nil ((H b (off * sz + (i * sz + j))).getD undef) c
      rw [h1]
      exact h2 c hj
    · cases hj)
  rw [chunk_len] at e
  exact e
theorem fz_sound {B : Nat → Prop} {ρ : RM} {w : World} : ∀ (d : Nat) (H : GH) (hp : List Box) (v : Value) (p p' : PV) (hp' : List Box), WR B H ρ w hp → Rel H ρ v p → fz d hp p = some (p', hp') → ∃ H', Kn B H ρ w hp H' hp' ∧ Rel H' RM.nil v p' := by
  intro d
  induction d with
  | zero => intro H hp v p p' hp' _ _ h; simp only [fz] at h; cases h
  | succ d ih =>
    intro H hp v p p' hp' hw hx h
    have L := fun (cs : List PV) (vs : List Value) => fzL_sound (B := B) (ρ := ρ) (w := w) (f := fz d) ih cs vs H hp
    unfold fz at h
    split at h
    · rename_i cs
      split at h
      · rename_i l hp1 h1
        cases h
        cases hx with | agg vs _ hl hr =>
        obtain ⟨H', k, l1, r⟩ := L cs vs.toList l hp' hw (by simpa using hl) (fun i v c hv hc => hr i v c (by rw [← Array.getElem?_toList]; exact hv) hc) h1
        exact ⟨H', k, .agg _ _ (by omega) fun i v c hv hc => r i v c (by rw [Array.getElem?_toList]; exact hv) hc⟩
      · cases h
    · rename_i cs
      split at h
      · rename_i l hp1 h1
        cases h
        cases hx with | tup vs _ hl hr =>
        obtain ⟨H', k, l1, r⟩ := L cs vs.toList l hp' hw (by simpa using hl) (fun i v c hv hc => hr i v c (by rw [← Array.getElem?_toList]; exact hv) hc) h1
        exact ⟨H', k, .tup _ _ (by omega) fun i v c hv hc => r i v c (by rw [Array.getElem?_toList]; exact hv) hc⟩
      · cases h
    · rename_i f cs
      split at h
      · rename_i l hp1 h1
        cases h
        cases hx with | fn _ vs _ hl hr =>
        obtain ⟨H', k, l1, r⟩ := L cs vs.toList l hp' hw (by simpa using hl) (fun i v c hv hc => hr i v c (by rw [← Array.getElem?_toList]; exact hv) hc) h1
        exact ⟨H', k, .fn _ _ _ (by omega) fun i v c hv hc => r i v c (by rw [Array.getElem?_toList]; exact hv) hc⟩
      · cases h
    · rename_i t x
      split at h
      · rename_i x' hp1 h1
        cases h
        cases hx with | ifc _ v _ hr =>
        obtain ⟨H', k, r⟩ := ih H hp v x x' hp' hw hr h1
        exact ⟨H', k, .ifc _ _ _ r⟩
      · cases h
    · cases h
    · rename_i id sz off len
      cases hx with | sl _ _ _ _ b cap hρ hcap =>
      split at h
      · rename_i bx hbx
        split at h
        · rename_i hc
          obtain ⟨c1, c2, c3⟩ := hc
          split at h
          · rename_i hst
            obtain ⟨hB, arr, T, a1, a2, a3, a4, a5, _⟩ := hw.box _ _ _ _ hbx (by omega) hρ
            split at h
            · rename_i cs' hp1 h1
              obtain ⟨H1, k, l1, r1⟩ := L bx.cells (arr.toList.take bx.cells.length) cs' hp1 hw (by simp; omega) (fun i v c hv hc => by
                rw [List.getElem?_take] at hv
                split at hv
                · rw [Array.getElem?_toList] at hv; exact a4 i v c hv hc
                · cases hv) h1
              split at h
              · rename_i b1 hb1
                split at h
                · rename_i hst1
                  cases h
                  obtain ⟨_, arr1, T1, e1, e2, e3, e4, e5, _⟩ := k.wr.box _ _ _ _ hb1 (by omega) hρ
                  rw [a1] at e1
                  cases e1
                  let H2 : GH := fun b' o => if b' = b then (if o < cs'.length then arr[o]? else none) else H1 b' o
                  have hle : H1.le H2 := fun b' o v hv => by
                    by_cases e : b' = b
                    · subst e; rw [e5 hst1 o] at hv; cases hv
                    · simp only [H2, if_neg e]; exact hv
                  have r2 : ∀ (i : Nat) c, cs'[i]? = some c → ∃ v, arr[i]? = some v ∧ H2 b i = some v ∧ Rel H2 RM.nil v c := fun i c hc => by
                    have hi := (List.getElem?_eq_some_iff.1 hc).1
                    have hi2 : i < arr.size := by omega
                    refine ⟨arr[i], Array.getElem?_eq_getElem hi2, ?_, ?_⟩
                    · simp only [H2, if_true, if_pos hi]; exact Array.getElem?_eq_getElem hi2
                    · exact (r1 i _ c (by rw [List.getElem?_take_of_lt (by omega), Array.getElem?_toList]; exact Array.getElem?_eq_getElem hi2) hc).mono hle (.refl _)
                  have hoth : ∀ b' o v, b' ≠ b → H2 b' o = some v → H1 b' o = some v := fun b' o v e hv => by simpa only [H2, if_neg e] using hv
                  refine ⟨H2, ⟨k.hH.trans hle, fun b' o v hb hv => ?_, ⟨fun b' o v hv => ?_, k.wr.base, fun i bi c cc q1 q2 q3 => ?_, fun i j bi bj c c1' c2' q1 q2 q3 q4 q5 q6 => ?_⟩, by rw [List.length_set]; exact k.len, fun i bi q1 => ?_⟩, ?_⟩
                  · exact k.old b' o v hb (hoth b' o v (fun e => hB (e ▸ hb)) hv)
                  · by_cases e : b' = b
                    · subst e
                      simp only [H2, if_true] at hv
                      split at hv
                      · rw [heap_cell a1]; exact hv
                      · cases hv
                    · exact k.wr.sub _ _ _ (hoth b' o v e hv)
                  · rcases ext_set q1 with ⟨rfl, rfl, _⟩ | ⟨hne, q1⟩
                    · rw [hρ] at q3; cases q3
                      refine ⟨hB, arr, T, a1, by rw [a2, c1], by show cs'.length ≤ _; omega, fun j v c hv hc => ?_, (fun e => by cases e), fun _ => ⟨fun o ho => ?_, r2⟩⟩
                      · obtain ⟨v', k1, _, k3⟩ := r2 j c hc
                        rw [hv] at k1; cases k1
                        exact k3.up
                      · simp only [H2, if_true]
                        exact if_neg (by have ho2 : cs'.length ≤ o := ho; omega)
                    · obtain ⟨hB', hb'⟩ := k.wr.box _ _ _ _ q1 q2 q3
                      have hcb : c ≠ b := by rintro rfl; exact hne (k.wr.inj _ _ _ _ _ _ _ q1 hb1 q2 (by omega) q3 hρ)
                      exact ⟨hB', hb'.keep rfl hle (.refl _) (fun o v hv => hoth c o v hcb hv)⟩
                  · have ex : ∀ (k' : Nat) (bk : Box), (hp1.set id ⟨sz, cs', 1⟩)[k']? = some bk → bk.st ≠ 2 → ∃ bk' : Box, hp1[k']? = some bk' ∧ bk'.st ≠ 2 := fun k' bk e1 e2 => by
                      rcases ext_set e1 with ⟨rfl, rfl, _⟩ | ⟨_, e1⟩
                      · exact ⟨b1, hb1, by omega⟩
                      · exact ⟨bk, e1, e2⟩
                    obtain ⟨_, e1, e2⟩ := ex _ _ q1 q3
                    obtain ⟨_, e3, e4⟩ := ex _ _ q2 q4
                    exact k.wr.inj _ _ _ _ _ _ _ e1 e3 e2 e4 q5 q6
                  · rcases ext_set q1 with ⟨rfl, rfl, _⟩ | ⟨_, q1⟩
                    · exact ⟨bx, hbx, by show bx.st ≤ 1; omega⟩
                    · exact k.st i bi q1
                  · exact chunk_rel (vs := fun _ => none) c2 (by omega) (fun j c hc => by obtain ⟨v, _, k2, k3⟩ := r2 j c hc; exact ⟨v, k2, k3⟩) hcap
                · cases h
              · cases h
            · cases h
          · split at h
            · rename_i hst
              cases h
              obtain ⟨hB, arr, T, a1, a2, a3, a4, _, a6⟩ := hw.box _ _ _ _ hbx (by omega) hρ
              exact ⟨H, .refl hw, chunk_rel (vs := fun _ => none) c2 c3 (fun j c hc => by obtain ⟨v, _, k2, k3⟩ := (a6 (.inl hst)).2 j c hc; exact ⟨v, k2, k3⟩) hcap⟩
            · cases h
        · cases h
      · cases h
    · rename_i id sz es
      cases h
      cases hx with | own _ _ _ _ h ht => exact ⟨H, .refl hw, h⟩
    · rename_i n1 n2 n3 n4 n5 n6 n7
      cases h
      refine ⟨H, .refl hw, ?_⟩
      cases hx with
      | any => exact .any _
      | bool => exact .bool _
      | int => exact .int _ _
      | str => exact .str _
      | agg => exact (n1 _ rfl).elim
      | tup => exact (n2 _ rfl).elim
      | nils => exact .nils
      | emp => exact .emp _
      | lst a cap sz es b o g ec hcap ha h1 he hr => exact .lst a cap sz es b o g ec hcap ha h1 he hr
      | sl => exact (n6 _ _ _ _ rfl).elim
      | cptr b o cs g h1 hr => exact .cptr b o cs g h1 hr
      | ptr => exact (n5 _ _ rfl).elim
      | nilp => exact .nilp
      | fn => exact (n3 _ _ rfl).elim
      | nilfn => exact .nilfn
      | ifc => exact (n4 _ _ rfl).elim
      | nilifc => exact .nilifc
      | own => exact (n7 _ _ _ rfl).elim
end Go.Proofs.YtfhojpnofmlkdaaDoor.Pv
