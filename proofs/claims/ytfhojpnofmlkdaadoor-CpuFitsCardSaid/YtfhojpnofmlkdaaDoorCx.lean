/- Calls that are given a pointer into one box. -/
import Derived.Test.YtfhojpnofmlkdaaDoorBrg
namespace Go.Proofs.YtfhojpnofmlkdaaDoor.Pv
open Go.RowKit
set_option linter.unusedSimpArgs false
set_option linter.unusedVariables false
theorem renB_no {m : Nat → Option Nat} {bx : Box} (h : bx.cells.all (noBoxB deep) = true) : renB m bx = bx := by
  obtain ⟨sz, cs, st⟩ := bx
  unfold renB
  congr 1
  conv => rhs; rw [← List.map_id cs]
  exact List.map_congr_left fun c hc => noBox_ren _ _ (List.all_eq_true.1 h c hc)
/-- a call that is given a pointer into the box i, which it changes -/
theorem pcallv_ptr {C : Orc} {g i off : Nat} {more : List PV} {hp : List Box} {bx bx' : Box} {r : PV} (hs : C.sh g = true) (hm : more.all (noBoxB deep) = true) (hi : hp[i]? = some bx) (hb : bx.cells.all (noBoxB deep) = true) (hb' : bx'.cells.all (noBoxB deep) = true) (hr : noBoxB deep r = true)
    (hc : C.shr g (.ptr 0 off :: more) [bx] = some (r, [bx'])) : pcallv C (.fn g []) (.ptr i off :: more) hp = some (r, hp.set i bx') := by
  have hm' := List.all_eq_true.1 hm
  have hlt : i < hp.length := (List.getElem?_eq_some_iff.1 hi).1
  unfold pcallv psub
  simp only [List.append_nil]
  rw [if_pos hs, if_neg (by simp [noBoxB, deep])]
  have e1 : (PV.ptr i off :: more).flatMap (boxesIn deep) = [i] := by
    rw [List.flatMap_cons, List.flatMap_eq_nil_iff.2 (fun c hc => noBox_in _ _ (hm' c hc))]; rfl
  have eb : bx.cells.flatMap (boxesIn deep) = [] := List.flatMap_eq_nil_iff.2 (fun c hc => noBox_in _ _ (List.all_eq_true.1 hb c hc))
  rw [e1, reach_one hi eb 9998]
  unfold psubI
  have e2 : (nodB [i] && [i].all fun i => Nat.blt i hp.length) = true := by simp [nodB, Nat.blt]; omega
  rw [e2]
  have e3 : (PV.ptr i off :: more).map (ren (posIn [i]) deep) = .ptr 0 off :: more := by
    rw [List.map_cons]
    congr 1
    · show (match posIn [i] i with | some j => PV.ptr j off | none => PV.any) = _
      rw [posIn_self]
    · conv => rhs; rw [← List.map_id more]
      exact List.map_congr_left fun c hc => noBox_ren _ _ (hm' c hc)
  have e4 : pick hp [i] = [bx] := by
    unfold pick
    simp only [List.map_cons, List.map_nil, hi, renB_no hb]
  rw [e3, e4]
  simp only [hc]
  have e5 : Nat.ble [i].length [bx'].length = true := rfl
  rw [e5]
  simp only [setAll, renB_no hb', List.map_nil, List.append_nil]
  rw [noBox_ren _ _ hr]
theorem pcallv_fz {C : Orc} {g : Nat} {al bl : List PV} {hp hp' : List Box} {r : PV} (hs : C.sh g = false) (hn : al.all (noBoxB deep) = false) (hf : fzL (fz deep) hp al = some (bl, hp')) (hc : C.iso g bl = some r) (hr : flatB deep r = true) : pcallv C (.fn g []) al hp = some (r, hp) := by
  unfold pcallv
  simp only [List.append_nil]
  rw [if_neg (by rw [hs]; decide), if_neg (by rw [hn]; decide), hf]
  simp only [hc]
  rw [if_pos hr]
theorem fzL_pre {f : List Box → PV → Option (PV × List Box)} {hp hp' : List Box} {rest rest' : List PV} : ∀ (pre : List PV), (∀ c ∈ pre, f hp c = some (c, hp)) → fzL f hp rest = some (rest', hp') → fzL f hp (pre ++ rest) = some (pre ++ rest', hp')
  | [], _, h => h
  | c :: pre, hc, h => by
    have h1 := hc c (List.mem_cons_self ..)
    have h2 := fzL_pre pre (fun x hx => hc x (List.mem_cons_of_mem _ hx)) h
    rw [List.cons_append, List.cons_append]
    simp only [fzL, h1, h2]
theorem fzL_one {f : List Box → PV → Option (PV × List Box)} {hp hp1 hp2 : List Box} {c c' : PV} {cs cs' : List PV} (h : f hp c = some (c', hp1)) (k : fzL f hp1 cs = some (cs', hp2)) : fzL f hp (c :: cs) = some (c' :: cs', hp2) := by simp only [fzL, h, k]
theorem fz_agg1 {d : Nat} {hp hp' : List Box} {cs l : List PV} (h : fzL (fz d) hp cs = some (l, hp')) : fz (d + 1) hp (.agg cs) = some (.agg l, hp') := by simp only [fz, h]
theorem fz_tup1 {d : Nat} {hp hp' : List Box} {cs l : List PV} (h : fzL (fz d) hp cs = some (l, hp')) : fz (d + 1) hp (.tup cs) = some (.tup l, hp') := by simp only [fz, h]
theorem chunk_rep (c : PV) (hc : c.atom = true) : ∀ n : Nat, chunk 1 n (rep n [c]) = List.replicate n c
  | 0 => rfl
  | n + 1 => by
    unfold rep
    rw [List.replicate_succ, List.flatten_cons]
    unfold chunk
    have e : elemOf 1 (List.take 1 ([c] ++ (List.replicate n [c]).flatten)) = c := by
      show (if 1 = 1 ∧ c.atom = true then c else .agg [c]) = c
      rw [if_pos ⟨rfl, hc⟩]
    rw [e]
    show c :: chunk 1 n (rep n [c]) = _
    rw [chunk_rep c hc n]; rfl
theorem fz_rep {d : Nat} {hp : List Box} {id n : Nat} {c : PV} (hc : c.atom = true) (hf : fz d hp c = some (c, hp)) (hb : hp[id]? = some ⟨1, rep n [c], 0⟩) : fz (d + 1) hp (.sl id 1 0 n) = some (.lst 1 (List.replicate n c), hp.set id ⟨1, rep n [c], 1⟩) := by
  have hl : (rep n [c]).length = n := by unfold rep; simp
  rw [fz_sl hb (by decide) (by rw [hl]; omega) (fun x hx => by
    unfold rep at hx
    simp only [List.mem_flatten, List.mem_replicate] at hx
    obtain ⟨q, ⟨_, rfl⟩, hx⟩ := hx
    simp only [List.mem_singleton] at hx
    rw [hx]; exact hf), chunk_rep c hc]
theorem sub_reps {n : Nat} {c c' : PV} (ha : c.cells? = some [c]) (ha' : c'.cells? = some [c']) (h : Sub c c') : Sub (.lst 1 (List.replicate n c)) (.lst 1 (List.replicate n c')) := fun H v hv => by
  obtain ⟨es, hes⟩ : ∃ es, es = List.replicate n c := ⟨_, rfl⟩
  rw [← hes] at hv
  cases hv with | lst a cap sz es b o g ec hcap hb hH he hr =>
  subst hes
  have hn : (List.replicate n c).length = (List.replicate n c').length := by simp
  rw [hn]
  refine .lst a cap 1 _ b o g (fun _ => [c']) (by rw [← hn]; exact hcap) (fun hne => hb (fun h0 => hne (by rw [← List.length_eq_zero_iff, ← hn, h0]; rfl))) (fun j hj => hH j (by rw [hn]; exact hj)) (fun i e hi => ?_) (fun i j x hi hx => ?_)
  · obtain ⟨_, rfl⟩ := rep_some hi
    exact ⟨ha', rfl⟩
  · match j, hx with
    | 0, hx =>
      cases hx
      have hi' : i < n := by rw [List.length_replicate] at hi; exact hi
      have e1 := he i c (by rw [List.getElem?_replicate, if_pos hi'])
      have e2 : ec i = [c] := by rw [ha] at e1; exact (Option.some.inj e1.1).symm
      exact h H _ (hr i 0 c (by rw [hn]; exact hi) (by rw [e2]; rfl))
    | j + 1, hx => simp at hx
end Go.Proofs.YtfhojpnofmlkdaaDoor.Pv
