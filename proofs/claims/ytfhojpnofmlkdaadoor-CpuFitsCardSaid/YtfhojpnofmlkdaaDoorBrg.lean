/- What the machine is known to do with isa's and image's functions, said of plain values. -/
import Derived.Test.YtfhojpnofmlkdaaDoorBase
import Derived.Test.YtfhojpnofmlkdaaDoorCheck
namespace Go.Proofs.YtfhojpnofmlkdaaDoor
open Go.Proofs.YtfhojpnofmlkdaaDoor.Pv Go.RowKit
set_option maxRecDepth 100000
set_option maxHeartbeats 4000000
set_option linter.unusedSimpArgs false
set_option linter.unusedVariables false
set_option maxRecDepth 100000
def Ins.cs (x : Ins) : List PV := [.int .u8 x.k, .int .i64 x.a, .int .i64 x.b, .int .i64 x.c, .int .i64 x.d]
def Ins.pv (x : Ins) : PV := .agg x.cs
def By (x : Ins) : Prop := 0 ≤ x.k ∧ x.k ≤ 255
def imgP (l : List Ins) (m s : Int) : PV := .agg [.lst 5 (l.map Ins.pv), .int .i64 m, .int .i64 s]
theorem Ins.pv_inj {x y : Ins} (h : x.pv = y.pv) : x = y := by
  cases x; cases y
  simp only [Ins.pv, Ins.cs, PV.agg.injEq, List.cons.injEq, PV.int.injEq, true_and, and_true] at h
  obtain ⟨rfl, rfl, rfl, rfl, rfl⟩ := h; rfl
theorem pv_inj {l l' : List Ins} (h : l.map Ins.pv = l'.map Ins.pv) : l = l' := by
  induction l generalizing l' with
  | nil => cases l' <;> simp at h ⊢
  | cons x l ih =>
    cases l' with
    | nil => simp at h
    | cons y l' =>
      simp only [List.map_cons, List.cons.injEq] at h
      rw [Ins.pv_inj h.1, ih h.2]
theorem rel_int {H : GH} {ρ : RM} {v : Value} {k : IntKind} {n : Int} (h : Rel H ρ v (.int k n)) : v = .int k n := by cases h; rfl
theorem rel_ins {H : GH} {ρ : RM} {v : Value} {x : Ins} (h : Rel H ρ v x.pv) : v = .agg #[.int .u8 x.k, .int .i64 x.a, .int .i64 x.b, .int .i64 x.c, .int .i64 x.d] := by
  cases h with | agg vs _ hl hr =>
  obtain ⟨l⟩ := vs
  match l, hl with
  | [v0, v1, v2, v3, v4], _ =>
    rw [rel_int (hr 0 v0 _ rfl rfl), rel_int (hr 1 v1 _ rfl rfl), rel_int (hr 2 v2 _ rfl rfl), rel_int (hr 3 v3 _ rfl rfl), rel_int (hr 4 v4 _ rfl rfl)]
theorem rel_img {H : GH} {w : World} {v : Value} {l : List Ins} {m s : Int} (hs : ∀ b o v, H b o = some v → w.cell? ⟨b, o, none⟩ = some v) (h : Rel H RM.nil v (imgP l m s)) : ∃ a cap, v = .agg #[.slice a l.length cap, .int .i64 m, .int .i64 s] ∧ SliceC w a l := by
  cases h with | agg vs _ hl hr =>
  obtain ⟨q⟩ := vs
  match q, hl with
  | [v0, v1, v2], _ =>
    have h0 := hr 0 v0 _ rfl rfl
    rw [rel_int (hr 1 v1 _ rfl rfl), rel_int (hr 2 v2 _ rfl rfl)]
    cases h0 with | lst a cap sz es b o g ec hcap ha hH he hr =>
    refine ⟨a, cap, by rw [List.length_map], fun hz => ?_⟩
    have hne : l.map Ins.pv ≠ [] := by simpa using hz
    have hz0 : 0 < l.length := List.length_pos_iff.2 hz
    refine ⟨b, o, ha hne, ?_, fun i x hi => ?_⟩
    · have := hH 0 (by rw [List.length_map]; omega)
      exact cell_lt (hs _ _ _ this)
    · have hil := (List.getElem?_eq_some_iff.1 hi).1
      obtain ⟨e1, e2⟩ := he i x.pv (by rw [List.getElem?_map, hi]; rfl)
      have e1 : ec i = x.cs := (Option.some.inj e1).symm
      have cell : ∀ (j : Nat) (k : IntKind) (n : Int), j < 5 → x.cs[j]? = some (.int k n) → w.cell? ⟨b, o + i * 5 + j, none⟩ = some (.int k n) := fun j k n hj hc => by
        have h1 := hr i j (.int k n) (by rw [List.length_map]; exact hil) (by rw [e1]; exact hc)
        have h2 := hs _ _ _ (hH (i * 5 + j) (by rw [List.length_map]; omega))
        rw [rel_int h1, ← Nat.add_assoc] at h2
        exact h2
      exact ⟨cell 0 _ _ (by omega) rfl, cell 1 _ _ (by omega) rfl, cell 2 _ _ (by omega) rfl, cell 3 _ _ (by omega) rfl, cell 4 _ _ (by omega) rfl⟩
theorem tab0_at : ∀ n : Nat, n < 35 → tab0[n * 2]? = some (.str (mnS n)) ∧ tab0[n * 2 + 1]? = some (.str (opS n)) := by
  intro n hn
  rcases (by omega : n = 0 ∨ n = 1 ∨ n = 2 ∨ n = 3 ∨ n = 4 ∨ n = 5 ∨ n = 6 ∨ n = 7 ∨ n = 8 ∨ n = 9 ∨ n = 10 ∨ n = 11 ∨ n = 12 ∨ n = 13 ∨ n = 14 ∨ n = 15 ∨ n = 16 ∨ n = 17 ∨ n = 18 ∨ n = 19 ∨ n = 20 ∨ n = 21 ∨ n = 22 ∨ n = 23 ∨ n = 24 ∨ n = 25 ∨ n = 26 ∨ n = 27 ∨ n = 28 ∨ n = 29 ∨ n = 30 ∨ n = 31 ∨ n = 32 ∨ n = 33 ∨ n = 34) with rfl | rfl | rfl | rfl | rfl | rfl | rfl | rfl | rfl | rfl | rfl | rfl | rfl | rfl | rfl | rfl | rfl | rfl | rfl | rfl | rfl | rfl | rfl | rfl | rfl | rfl | rfl | rfl | rfl | rfl | rfl | rfl | rfl | rfl | rfl <;> exact ⟨by rfl, by rfl⟩
theorem laid_of {H : GH} {w : World} (hs : ∀ b o v, H b o = some v → w.cell? ⟨b, o, none⟩ = some v) (hg : GRel H X.G) : Laid w := fun n hn => by
  have h := hg 0
  have hX : X.G 0 = tab0 := rfl
  rw [hX] at h
  have hl : tab0.length = 70 := rfl
  cases h with | cptr b o cs g hH hr =>
  obtain ⟨e1, e2⟩ := tab0_at n hn
  have s1 := hr _ _ e1
  have s2 := hr _ _ e2
  have c1 := hs _ _ _ (hH (n * 2) (by omega))
  have c2 := hs _ _ _ (hH (n * 2 + 1) (by omega))
  refine ⟨?_, ?_⟩
  · generalize g (n * 2) = u at s1 c1; cases s1; simpa using c1
  · generalize g (n * 2 + 1) = u at s2 c2; cases s2; simpa using c2
theorem fine38_ : Fine Tryd.prog 38 := ⟨_, Tryd.func38, by kernel_rfl, by kernel_rfl⟩
theorem fine23_ : Fine Tryd.prog 23 := ⟨_, Tryd.func23, by kernel_rfl, by kernel_rfl⟩
theorem fine47_ : Fine Tryd.prog 47 := ⟨_, Tryd.func47, by kernel_rfl, by kernel_rfl⟩
theorem fine25_ : Fine Tryd.prog 25 := ⟨_, Tryd.func25, by kernel_rfl, by kernel_rfl⟩
theorem flat_tup2 {a b : PV} (ha : Flat a) (hb : Flat b) : Flat (.tup [a, b]) := .tup _ fun i c hc => by
  match i, hc with
  | 0, hc => cases hc; exact ha
  | 1, hc => cases hc; exact hb
  | n + 2, hc => simp at hc
theorem rel_tup2 {H : GH} {u v : Value} {a b : PV} (ha : Rel H RM.nil u a) (hb : Rel H RM.nil v b) : Rel H RM.nil (.tuple #[u, v]) (.tup [a, b]) := .tup _ _ rfl fun i v c hv hc => by
  match i, hv, hc with
  | 0, hv, hc => cases hv; cases hc; exact ha
  | 1, hv, hc => cases hv; cases hc; exact hb
  | n + 2, hv, hc => simp at hc
theorem flat_ins (x : Ins) : Flat x.pv := .agg _ fun i c hc => by
  have : c ∈ x.cs := List.mem_of_getElem? hc
  simp only [Ins.cs, List.mem_cons, List.not_mem_nil, or_false] at this
  rcases this with rfl | rfl | rfl | rfl | rfl <;> exact .int _ _
theorem rel_insv {H : GH} (x : Ins) : Rel H RM.nil (.agg #[.int .u8 x.k, .int .i64 x.a, .int .i64 x.b, .int .i64 x.c, .int .i64 x.d]) x.pv := .agg _ _ rfl fun i v c hv hc => by
  match i, hv, hc with
  | 0, hv, hc => cases hv; cases hc; exact .int _ _
  | 1, hv, hc => cases hv; cases hc; exact .int _ _
  | 2, hv, hc => cases hv; cases hc; exact .int _ _
  | 3, hv, hc => cases hv; cases hc; exact .int _ _
  | 4, hv, hc => cases hv; cases hc; exact .int _ _
  | n + 5, hv, hc => simp [Ins.cs] at hc
theorem okw38 (x : Ins) (hx : By x) : Ok Tryd.prog X.G 38 [x.pv] (.tup [.int .i64 (tgt x), .bool (tb x.k)]) :=
  ok_flat fine38_ (flat_tup2 (.int _ _) (.bool _)) fun w H vs hs hg ha => by
    obtain ⟨v, rfl, hv⟩ := args1 ha
    rw [rel_ins hv]
    exact (target_any x.k x.a x.b x.c x.d w hx (laid_of hs hg)).mono fun e w' ⟨he, hb⟩ => ⟨_, he, hb, rel_tup2 (.int _ _) (.bool _)⟩
theorem okw23 (x : Ins) (hx : By x) : Ok Tryd.prog X.G 23 [x.pv] (.bool (vld x)) :=
  ok_flat fine23_ (.bool _) fun w H vs hs hg ha => by
    obtain ⟨v, rfl, hv⟩ := args1 ha
    rw [rel_ins hv]
    exact (valid_any x.k x.a x.b x.c x.d w hx (laid_of hs hg)).mono fun e w' ⟨he, hb⟩ => ⟨_, he, hb, .bool _⟩
theorem okw47 (l : List Ins) (m s : Int) (hw : WF l) (hn : l.length ≤ 300) : Ok Tryd.prog X.G 47 [imgP l m s] (.tup [.int .i64 (ckI l m s), .int .i64 (ckE l m s)]) :=
  ok_flat fine47_ (flat_tup2 (.int _ _) (.int _ _)) fun w H vs hs hg ha => by
    obtain ⟨v, rfl, hv⟩ := args1 ha
    obtain ⟨a, cap, rfl, hS⟩ := rel_img hs hv
    exact (check_any a l.length cap m s l w hS rfl hw (laid_of hs hg) hn).mono fun e w' ⟨he, hb⟩ => ⟨_, he, hb, rel_tup2 (.int _ _) (.int _ _)⟩
theorem okw25 (l : List Ins) (m s : Int) (hw : WF l) (hn : l.length ≤ 300) : Ok Tryd.prog X.G 25 [imgP l m s] (.bool (ckE l m s == 0)) :=
  ok_flat fine25_ (.bool _) fun w H vs hs hg ha => by
    obtain ⟨v, rfl, hv⟩ := args1 ha
    obtain ⟨a, cap, rfl, hS⟩ := rel_img hs hv
    exact (valid_img a l.length cap m s l w hS rfl hw (laid_of hs hg) hn).mono fun e w' ⟨he, hb⟩ => ⟨_, he, hb, .bool _⟩
end Go.Proofs.YtfhojpnofmlkdaaDoor
