/- A variable that the program's text lays reads as its datum. -/
import Derived.Test.YtfhojpnofmlkdaaDoorPvS
import Derived.LaidMore
import Derived.Stop.Joined
namespace Go.Proofs.YtfhojpnofmlkdaaDoor.Pv
open Go.RowKit
set_option linter.unusedSimpArgs false
set_option linter.unusedVariables false
set_option maxHeartbeats 1000000

mutual
def dpv {H : Type} : DataW H → List PV
  | .lit (.string l) => [.str ⟨l.toArray⟩]
  | .lit (.int k n) => [.int k n]
  | .lit (.bool b) => [.bool b]
  | .agg ds => dpvL ds
  | _ => [.any]
def dpvL {H : Type} : List (DataW H) → List PV
  | [] => []
  | d :: ds => dpv d ++ dpvL ds
end
theorem dpvL_eq {H : Type} : ∀ ds : List (DataW H), dpvL ds = (ds.map dpv).flatten
  | [] => by rw [dpvL]; rfl
  | d :: ds => by rw [dpvL, dpvL_eq ds]; rfl
theorem consec_cat {P : Program} {H : GH} {ρ : RM} {cs : List Value} : ∀ (fs : List Field) (ps : List (List PV)) (o : Nat), consec P fs o cs.length = true → ps.length = fs.length → (∀ (i : Nat) f p, fs[i]? = some f → ps[i]? = some p → RelL H ρ ((cs.drop f.offset).take (P.cellsOf f.type)) p) → RelL H ρ (cs.drop o) ps.flatten := by
  intro fs
  induction fs with
  | nil =>
    intro ps o h hl _
    simp only [consec, beq_iff_eq] at h
    have : ps = [] := List.eq_nil_of_length_eq_zero hl
    subst this
    rw [h, List.drop_length]; exact .nil
  | cons f fs ih =>
    intro ps o h hl hf
    simp only [consec, Bool.and_eq_true, beq_iff_eq] at h
    cases ps with
    | nil => simp at hl
    | cons p ps =>
      have h2 := hf 0 f p rfl rfl
      have h5 := ih ps _ h.2 (by simpa using hl) (fun i g q hg hq => hf (i + 1) g q hg hq)
      rw [h.1] at h2
      have := h2.append h5
      rw [← List.drop_drop, List.take_append_drop] at this
      simpa using this
theorem list_cat {H : GH} {ρ : RM} {cs : List Value} {sz : Nat} : ∀ (ps : List (List PV)) (o : Nat), cs.length = o + ps.length * sz → (∀ (i : Nat) p, ps[i]? = some p → RelL H ρ ((cs.drop (o + i * sz)).take sz) p) → RelL H ρ (cs.drop o) ps.flatten := by
  intro ps
  induction ps with
  | nil => intro o h _; rw [List.drop_of_length_le (by simp at h; omega)]; exact .nil
  | cons p ps ih =>
    intro o h hp
    have h2 := hp 0 p rfl
    have h5 := ih (o + sz) (by rw [h, List.length_cons, Nat.add_mul]; omega) (fun i q hq => by
      have := hp (i + 1) q hq
      rwa [show o + (i + 1) * sz = o + sz + i * sz by rw [Nat.add_mul]; omega] at this)
    rw [Nat.zero_mul, Nat.add_zero] at h2
    have := h2.append h5
    rw [← List.drop_drop, List.take_append_drop] at this
    simpa using this
theorem trod_dpv {Hd : Type} {enc : TypeId × Value → Hd} {P : Program} {w : World} {base : Nat} {spare : Nat → Bool} {held : Bool} (hL : layB P = true) : ∀ (fuel : Nat) (t : TypeId) (cs : List Value) (x : DataW Hd × List MemPlace), t < P.types.size → DataW.trod enc P w base spare held fuel t cs = some x → RelL (HW w) RM.nil cs (dpv x.1) := by
  intro fuel
  induction fuel with
  | zero => intro t cs x ht h; simp [DataW.trod] at h
  | succ fuel ih =>
    intro t cs x htl h
    have hat := layB_at hL htl
    unfold layAt at hat
    have any1 : ∀ (v : Value) (d : DataW Hd), dpv d = [.any] → RelL (HW w) RM.nil [v] (dpv d) := fun v d e => by rw [e]; exact .one (.any v)
    unfold DataW.trod at h
    split at h
    · cases h; rw [dpv]; exact .one (.bool _)
    · split at h
      · rename_i hc; cases h; rw [dpv]; exact .one (by rw [hc.1]; exact .int _ _)
      · cases h
    · split at h
      · cases h; exact any1 _ _ (by rw [dpv] <;> simp)
      · cases h
    · split at h
      · cases h; rw [dpv]; exact .one (.str _)
      · cases h
    · cases h; exact any1 _ _ (by rw [dpv] <;> simp)
    · obtain ⟨r, _, rfl⟩ := Option.map_eq_some_iff.1 h; exact any1 _ _ (by rw [dpv] <;> simp)
    · cases h; exact any1 _ _ (by rw [dpv] <;> simp)
    · split at h
      · obtain ⟨r, _, h2⟩ := Option.bind_eq_some_iff.1 h
        obtain ⟨r2, _, rfl⟩ := Option.map_eq_some_iff.1 h2
        exact any1 _ _ (by rw [dpv] <;> simp)
      · cases h
    · rename_i csx xo cs' fs hT
      rw [hT] at hat
      simp only [Bool.and_eq_true, Array.all_eq_true_iff_forall_mem, decide_eq_true_eq] at hat
      split at h
      · rename_i hlen
        obtain ⟨xs, h1, rfl⟩ := Option.map_eq_some_iff.1 h
        have hl := mapM_some_length h1
        have := consec_cat (P := P) (H := HW w) (ρ := RM.nil) (cs := csx) fs.toList (xs.map fun (y : DataW Hd × List MemPlace) => dpv y.1) 0 (by rw [hlen]; exact hat.1) (by simpa using hl) (fun i f p hf hp => by
          have h2 := mapM_some_get h1 i f hf
          rw [List.getElem?_map] at hp
          obtain ⟨y, hy, rfl⟩ := Option.map_eq_some_iff.1 hp
          rw [hy] at h2
          exact ih _ _ _ (hat.2 f (Array.mem_toList_iff.1 (List.mem_of_getElem? hf))) h2)
        show RelL (HW w) RM.nil csx (dpv (.agg (xs.map (·.1))))
        rw [dpv, dpvL_eq, List.map_map]
        exact this
      · cases h
    · rename_i csx xo cs' m e hT
      rw [hT] at hat
      simp only [Bool.and_eq_true, beq_iff_eq, decide_eq_true_eq] at hat
      split at h
      · rename_i hlen
        obtain ⟨xs, h1, rfl⟩ := Option.map_eq_some_iff.1 h
        have hl := mapM_some_length h1
        simp only [List.length_range] at hl
        have := list_cat (H := HW w) (ρ := RM.nil) (cs := csx) (sz := P.cellsOf e) (xs.map fun (y : DataW Hd × List MemPlace) => dpv y.1) 0 (by rw [hlen, hat.1, List.length_map, hl]; omega) (fun i p hp => by
          rw [List.getElem?_map] at hp
          obtain ⟨y, hy, rfl⟩ := Option.map_eq_some_iff.1 hp
          have hi : i < m := by have := (List.getElem?_eq_some_iff.1 hy).1; omega
          have h2 := mapM_some_get h1 i i (by simp [hi])
          rw [hy] at h2
          rw [Nat.zero_add]
          exact ih _ _ _ hat.2 h2)
        show RelL (HW w) RM.nil csx (dpv (.agg (xs.map (·.1))))
        rw [dpv, dpvL_eq, List.map_map]
        exact this
      · cases h
    all_goals first | (cases h; done) | (cases h; exact any1 _ _ (by rw [dpv] <;> simp)) | skip
    · split at h
      · cases h; exact any1 _ _ (by rw [dpv] <;> simp)
      · obtain ⟨r, _, rfl⟩ := Option.map_eq_some_iff.1 h; exact any1 _ _ (by rw [dpv] <;> simp)
      · cases h
    · split at h
      · split at h
        · obtain ⟨r, _, h2⟩ := Option.bind_eq_some_iff.1 h
          simp only at h2
          split at h2
          · cases h2; exact any1 _ _ (by rw [dpv] <;> simp)
          · cases h2
        · cases h
      · cases h
    all_goals (split at h <;> first | (cases h; done) | (cases h; exact any1 _ _ (by rw [dpv] <;> simp)))
/-- a listed variable -/
theorem glob_rel {Hd : Type} {enc : TypeId × Value → Hd} {P : Program} {W : World} {base fuel : Nat} {spare : Nat → Bool} {held : Bool} {n : String} {g : Nat} {t : TypeId} {cs : Array Value} {d : DataW Hd} {p : List MemPlace} (hL : layB P = true) (ht : t < P.types.size) (hg : P.globalNamed n = some g) (hv : W.var? P n = some cs) (hd : DataW.trod enc P W base spare held fuel t cs.toList = some (d, p)) :
    Rel (HW W) RM.nil (.pointer (some ⟨g, 0, none⟩)) (.cptr (dpv d)) := by
  have h := trod_dpv hL fuel t cs.toList (d, p) ht hd
  have hc := fun j => World.var?_cell hg hv j
  refine .cptr g 0 _ (fun j => (cs[j]?).getD undef) (fun j hj => ?_) (fun j c hj => ?_)
  · have hj' : j < cs.size := by have := h.1; simp at this; rw [this]; exact hj
    show W.cell? ⟨g, 0 + j, none⟩ = _
    rw [Nat.zero_add, hc j, Array.getElem?_eq_getElem hj']; rfl
  · have hj' : j < cs.size := by have := h.1; simp at this; rw [this]; exact (List.getElem?_eq_some_iff.1 hj).1
    have := h.2 j cs[j] c (by rw [Array.getElem?_toList]; exact Array.getElem?_eq_getElem hj') hj
    rw [Array.getElem?_eq_getElem hj']; exact this
/-- of every other variable nothing need be known -/
theorem glob_nil (H : GH) (g : Nat) : Rel H RM.nil (.pointer (some ⟨g, 0, none⟩)) (.cptr []) := .cptr g 0 [] (fun _ => undef) (fun j hj => by simp at hj) (fun j c hj => by simp at hj)
end Go.Proofs.YtfhojpnofmlkdaaDoor.Pv
