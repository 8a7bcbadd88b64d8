/- The indices that are kept. -/
import Derived.Test.YtkfmhmkeikhdbaaDoorKb
import Derived.Test.YtkfmhmkeikhdbaaDoorRb
namespace Go.Proofs.YtkfmhmkeikhdbaaDoor
open Go.Proofs.YtkfmhmkeikhdbaaDoor.Pv Go.RowKit
set_option maxRecDepth 100000
set_option maxHeartbeats 4000000
set_option linter.unusedSimpArgs false
set_option linter.unusedVariables false
theorem sz3 : szT Tryd.prog 3 = some 1 := by kernel_rfl
theorem sz23 : szT Tryd.prog 23 = some 5 := by kernel_rfl
theorem z3 : zeroP Tryd.prog 3 = some [.int .i64 0] := by kernel_rfl
theorem z23 : zeroP Tryd.prog 23 = some [.int .u8 0, .int .i64 0, .int .i64 0, .int .i64 0, .int .i64 0] := by kernel_rfl
theorem a3 : isA Tryd.prog 3 = some false := by kernel_rfl
theorem a23 : isA Tryd.prog 23 = some true := by kernel_rfl
theorem by3 : bytesOk Tryd.prog 3 4294967296 = true := by kernel_rfl
theorem by23 : bytesOk Tryd.prog 23 4294967296 = true := by kernel_rfl
theorem nb_ni {c : PV} {l : List Nat} (h : c ∈ l.map ni) : NB c := by obtain ⟨a, _, rfl⟩ := List.mem_map.1 h; exact NB.int _ _
theorem px_code {l : List Ins} {i : Nat} {x : Ins} (h : l[i]? = some x) : pidx Tryd.prog 28 (code l) (.int .i64 ((i : Nat) : Int)) = some (.cptr x.cs) :=
  pidx_lst (P := Tryd.prog) (T := 28) (k := .i64) Tryd.underlying28 sz23 h (ins_cells x)
/-- one step of the stack -/
def kst (l : List Ins) (k : List Nat) (i : Nat) : List Nat :=
  match k.getLast? with
  | some p => if can (l.getD p ⟨0, 0, 0, 0, 0⟩) (l.getD i ⟨0, 0, 0, 0, 0⟩) = true then k.dropLast else k ++ [i]
  | none => [i]
def kps (l : List Ins) : Nat → List Nat
  | 0 => []
  | i + 1 => kst l (kps l i) i
theorem kst_lt {l : List Ins} {k : List Nat} {i : Nat} (h : ∀ p ∈ k, p < i) : ∀ p ∈ kst l k i, p < i + 1 := by
  intro p hp
  unfold kst at hp
  split at hp
  · split at hp
    · have := h p (List.dropLast_subset k hp); omega
    · rcases List.mem_append.1 hp with hp | hp
      · have := h p hp; omega
      · simp at hp; omega
  · simp at hp; omega
theorem kps_lt (l : List Ins) : ∀ i, ∀ p ∈ kps l i, p < i
  | 0, p, hp => by simp [kps] at hp
  | i + 1, p, hp => kst_lt (kps_lt l i) p hp
theorem kst_len (l : List Ins) (k : List Nat) (i : Nat) : (kst l k i).length ≤ k.length + 1 := by
  unfold kst
  split
  · split <;> simp <;> omega
  · simp
theorem kps_len (l : List Ins) : ∀ i, (kps l i).length ≤ i
  | 0 => by simp [kps]
  | i + 1 => by have := kst_len l (kps l i) i; have := kps_len l i; unfold kps; omega
def st36 (l : List Ins) (i : Nat) (k g : List Nat) : PS := ⟨⟨39, [(9, .int .i64 ((i : Nat) : Int)), (3, .sl 0 1 0 (List.length k)), (0, code l), (7, code l), (8, .int .i64 (l.length : Int))]⟩, [⟨1, List.map ni (k ++ g), 0⟩]⟩
def st36z (l : List Ins) (i : Nat) : PS := ⟨⟨39, [(9, .int .i64 ((i : Nat) : Int)), (3, .nils), (0, code l), (7, code l), (8, .int .i64 (l.length : Int))]⟩, []⟩
theorem app36 (k g : List Nat) (x : Ins) (i : Nat) (hk : k.length ≤ 1000000) : pappend Tryd.prog [⟨1, List.map ni (k ++ g), 0⟩, ⟨5, Ins.cs x, 0⟩, ⟨1, [ni i], 0⟩] 3 39 39 (.sl 0 1 0 k.length) (.sl 2 1 0 1) = some (.sl 3 1 0 (List.length (k ++ [i])), [⟨1, List.map ni (k ++ g), 2⟩, ⟨5, Ins.cs x, 0⟩, ⟨1, [ni i], 0⟩, ⟨1, List.map ni (k ++ [i]), 0⟩]) := by
  have := pappend_one (P := Tryd.prog) (hp := [⟨1, List.map ni (k ++ g), 0⟩, ⟨5, Ins.cs x, 0⟩, ⟨1, [ni i], 0⟩]) (T := 39) (X := 39) (id := 0) (j := 2) (len := k.length) Tryd.underlying39 Tryd.underlying39 sz3 z3 rfl (by decide) rfl rfl rfl rfl (by simp) (bytes_ok by3 (by omega))
  refine Eq.trans this ?_
  simp [List.take_append_of_le_length]
theorem lp36 (l : List Ins) (hw : WF l) (hn : l.length ≤ 1000000) (h : List PV → Option PV) (hT : TabOk Tryd.prog X.G [(12, h)]) (hc : ∀ x y : Ins, By x → h [x.pv, y.pv] = some (.bool (can x y))) :
    ∀ r i g, i + r = l.length → 0 < i → ∃ g', LoopOk Tryd.prog X.G 0 (lpB Tryd.f36 3) (st36 l i (kps l i) g) (.exit 0) ⟨⟨39, [(3, .sl 0 1 0 (List.length (kps l l.length)))]⟩, [⟨1, List.map ni (kps l l.length ++ g'), 0⟩]⟩ := by
  intro r
  induction r with
  | zero =>
    intro i g hi h0
    obtain rfl : i = l.length := by omega
    refine ⟨g, round_ok env.mixed (tab_orc hT tn') (by kernel_rfl) (r36b h l l.length 0 (kps l l.length) g [] [] ⟨0, 0, 0, 0, 0⟩ ⟨0, 0, 0, 0, 0⟩ 0 false) ?_⟩
    simp only [Holds, Pv.Next]
    exact ⟨fun h => absurd h (by simp), fun _ => ⟨trivial, ⟨trivial, trivial, ⟨VW.sl rfl rfl rfl rfl, trivial⟩, ⟨BW.flat rfl (fun c hc => nb_ni hc), trivial⟩⟩, trivial, trivial⟩⟩
  | succ r ih =>
    intro i g hi h0
    obtain ⟨x, hx⟩ : ∃ x, l[i]? = some x := ⟨_, List.getElem?_eq_getElem (by omega)⟩
    have hs := wsucc (i := i) (by omega)
    have hkl := kps_len l i
    have px := px_code hx
    generalize hk : kps l i = k at *
    have hlt : ∀ p ∈ k, p < i := by rw [← hk]; exact kps_lt l i
    have hnext : kps l (i + 1) = kst l k i := by show kst l (kps l i) i = _; rw [hk]
    have gx : l.getD i ⟨0, 0, 0, 0, 0⟩ = x := by rw [List.getD_eq_getElem?_getD, hx]; rfl
    have ap := app36 k g x i (by omega)
    rcases List.eq_nil_or_concat k with rfl | ⟨k0, p, hkp⟩
    · obtain ⟨g', hg⟩ := ih (i + 1) [] (by omega) (by omega)
      refine ⟨g', round_ok env.mixed (tab_orc hT tn') (by kernel_rfl) (r36b h l i 0 [] g [] [] x x 0 false) ?_⟩
      simp only [Holds, Pv.Next]
      refine ⟨fun _ => ⟨congrArg (Option.map fun v => (v, _)) px, fun h => absurd h (by decide), fun _ => ⟨ap, ⟨trivial, trivial, ⟨VW.int hs, VW.sl rfl rfl rfl rfl, VW.lst rfl rfl, VW.lst rfl rfl, VW.int rfl, trivial⟩, ⟨BW.flat (by simp) (fun c hc => nb_ni hc), trivial⟩⟩, ?_⟩⟩, fun h => absurd h (by simp; omega)⟩
      rw [hnext] at hg
      exact hg
    · rw [List.concat_eq_append] at hkp
      subst hkp
      have hp : p < i := hlt p (by simp)
      obtain ⟨y, hy⟩ : ∃ y, l[p]? = some y := ⟨_, List.getElem?_eq_getElem (by omega)⟩
      have gy : l.getD p ⟨0, 0, 0, 0, 0⟩ = y := by rw [List.getD_eq_getElem?_getD, hy]; rfl
      have hst : kst l (k0 ++ [p]) i = if can y x = true then k0 else k0 ++ [p] ++ [i] := by
        unfold kst
        rw [List.getLast?_append]
        simp [hx, hy]
      have hlen : (k0 ++ [p]).length = k0.length + 1 := by simp
      have hsub := sub_i64 (n := (k0 ++ [p]).length) (by omega) (by omega)
      have hq : (k0 ++ [p]).length - 1 = k0.length := by omega
      rw [hq] at hsub
      have e23 := pidx_sl (P := Tryd.prog) (T := 39) (E := 3) (id := 0) (sz := 1) (off := 0) (len := (k0 ++ [p]).length) (j := k0.length) (k := .i64) Tryd.underlying39 sz3 (by omega)
      rw [show 0 * 1 + k0.length * 1 = k0.length by omega] at e23
      have e24 := pload_at (P := Tryd.prog) (T := 3) (id := 0) (q := k0.length) (hp := [⟨1, List.map ni (k0 ++ [p] ++ g), 0⟩, ⟨5, Ins.cs x, 0⟩]) (c := ni p) rfl (by simp) sz3 a3 (by simp)
      have e25 := px_code hy
      have hcy : By y := hw y (List.mem_of_getElem? hy)
      have e28 : (tab X.sh [(12, h)] []).iso 12 [y.pv, x.pv] = some (.bool (can y x)) := hc y x hcy
      by_cases hcan : can y x = true
      · obtain ⟨g', hg⟩ := ih (i + 1) ([p] ++ g) (by omega) (by omega)
        refine ⟨g', round_ok env.mixed (tab_orc hT tn') (by kernel_rfl) (r36b h l i k0.length (k0 ++ [p]) g k0 ([p] ++ g) x y p true) ?_⟩
        simp only [Holds, Pv.Next]
        refine ⟨fun _ => ⟨congrArg (Option.map fun v => (v, _)) px, fun _ => ⟨?_, congrArg (Option.map fun v => (v, _)) e24, congrArg (Option.map fun v => (v, _)) e25, fun _ => ⟨by rw [hcan] at e28; exact pcallD_iso rfl rfl e28, ?_, ⟨trivial, trivial, ⟨VW.int hs, VW.sl rfl rfl rfl rfl, VW.lst rfl rfl, VW.lst rfl rfl, VW.int rfl, trivial⟩, ⟨BW.flat (by simp) (fun c hc => nb_ni hc), trivial⟩⟩, ?_⟩, fun h => absurd h (by decide)⟩, fun h => ?_⟩, fun h => absurd h (by simp; omega)⟩
        · rw [hsub]; exact congrArg (Option.map fun v => (v, _)) e23
        · rw [hsub]
          have : pslice Tryd.prog 39 (.sl 0 1 0 (k0 ++ [p]).length) none (some (I (k0.length : Int))) none = some (.sl 0 1 0 k0.length) := by
            unfold pslice
            rw [Tryd.underlying39]
            simp only [bnd, I]
            rw [if_pos (by omega)]
            simp only [Int.toNat_natCast]
            rw [if_pos ⟨by omega, by omega, sz3, .inl trivial⟩]
            simp
          exact congrArg (Option.map fun v => (v, _)) this
        · rw [hnext, hst, if_pos hcan] at hg
          exact hg
        · rw [hsub] at h; simp at h
      · have hcf : can y x = false := by simpa using hcan
        obtain ⟨g', hg⟩ := ih (i + 1) [] (by omega) (by omega)
        refine ⟨g', round_ok env.mixed (tab_orc hT tn') (by kernel_rfl) (r36b h l i k0.length (k0 ++ [p]) g [] [] x y p false) ?_⟩
        simp only [Holds, Pv.Next]
        refine ⟨fun _ => ⟨congrArg (Option.map fun v => (v, _)) px, fun _ => ⟨?_, congrArg (Option.map fun v => (v, _)) e24, congrArg (Option.map fun v => (v, _)) e25, fun h => absurd h (by decide), fun _ => ⟨by rw [hcf] at e28; exact pcallD_iso rfl rfl e28, ap, ⟨trivial, trivial, ⟨VW.int hs, VW.sl rfl rfl rfl rfl, VW.lst rfl rfl, VW.lst rfl rfl, VW.int rfl, trivial⟩, ⟨BW.flat (by simp) (fun c hc => nb_ni hc), trivial⟩⟩, ?_⟩⟩, fun h => ?_⟩, fun h => absurd h (by simp; omega)⟩
        · rw [hsub]; exact congrArg (Option.map fun v => (v, _)) e23
        · rw [hnext, hst, if_neg hcan] at hg
          exact hg
        · rw [hsub] at h; simp at h
theorem ok36 (l : List Ins) (hw : WF l) (hn : l.length ≤ 1000000) : Ok Tryd.prog X.G 36 [code l] (.lst 1 ((kps l l.length).map ni)) := by
  obtain ⟨h, e12, o12⟩ := ent_ex (fun p : Ins × Ins => By p.1) (fun p : Ins × Ins => ([p.1.pv, p.2.pv], .bool (can p.1 p.2))) (fun a b h => by
    simp only [List.cons.injEq, and_true] at h
    rw [Ins.pv_inj h.1, Ins.pv_inj h.2])
  have hT : TabOk Tryd.prog X.G [(12, h)] := tk (fun l r e => by obtain ⟨a, ha, rfl, rfl⟩ := o12 l r e; exact ok12 a.1 a.2 ha) tn
  have hc : ∀ x y : Ins, By x → h [x.pv, y.pv] = some (.bool (can x y)) := fun x y hx => e12 (x, y) hx
  cases l with
  | nil =>
    refine wok env (tab_orc hT tn') fd36 (t36a h []) ?_
    simp only [Holds]
    refine ⟨⟨trivial, trivial, ⟨VW.int rfl, VW.nils, VW.lst rfl rfl, VW.lst rfl rfl, VW.int rfl, trivial⟩, trivial⟩, ?_, ⟨_, _, rfl, Sub.nils 1⟩⟩
    refine round_ok env.mixed (tab_orc hT tn') (by kernel_rfl) (r36a h [] 0 ⟨0, 0, 0, 0, 0⟩) ?_
    simp only [Holds, Pv.Next]
    exact ⟨fun h => absurd h (by simp), fun _ => ⟨trivial, ⟨trivial, trivial, ⟨VW.nils, trivial⟩, trivial⟩, trivial, trivial⟩⟩
  | cons x l =>
    obtain ⟨g', hg⟩ := lp36 (x :: l) hw hn h hT hc l.length 1 [] (by simp; omega) (by omega)
    refine wok env (tab_orc hT tn') fd36 (t36b h (x :: l) (kps (x :: l) (x :: l).length) g') ?_
    simp only [Holds]
    refine ⟨⟨trivial, trivial, ⟨VW.int rfl, VW.nils, VW.lst rfl rfl, VW.lst rfl rfl, VW.int (by rw [List.length_map]), trivial⟩, trivial⟩, ?_, ?_⟩
    · refine round_ok env.mixed (tab_orc hT tn') (by kernel_rfl) (r36a h (x :: l) 0 x) ?_
      simp only [Holds, Pv.Next]
      refine ⟨fun _ => ⟨congrArg (Option.map fun v => (v, _)) (px_code (l := x :: l) (i := 0) rfl), ⟨trivial, trivial, ⟨VW.int (wsucc (by omega)), VW.sl rfl rfl rfl rfl, VW.lst rfl rfl, VW.lst rfl rfl, VW.int rfl, trivial⟩, ⟨BW.flat rfl (fun c hc => nb_ni (l := [0]) hc), trivial⟩⟩, hg⟩, fun h => absurd h (by simp)⟩
    · exact ⟨_, _, Fz.pre (fun _ => rfl) (fun _ _ _ => rfl) rfl, Sub.refl _⟩
end Go.Proofs.YtkfmhmkeikhdbaaDoor
