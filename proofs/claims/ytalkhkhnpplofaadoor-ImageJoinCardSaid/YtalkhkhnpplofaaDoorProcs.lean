/- Contracts: Procs. -/
import Derived.Test.YtalkhkhnpplofaaDoorRows
import Derived.WalkKit
import Derived.ProofKit
import Derived.OpenShut
import Derived.Below
import Derived.Lib.Hide
import Derived.Outline
import Derived.WalkLawsBesides
import Derived.WalkSpells
import Derived.WalkSmall
import Derived.IntWalk
import Derived.Deep.QuietTactic
import Derived.BigQuiet
import Derived.Deep.RegionHeld3
import Derived.StillTailTactics
import Derived.Handy
import Derived.Deep.Cut
import Derived.Deep.OwnRows
import Derived.Deep.RegionWith
import Derived.Test.YtalkhkhnpplofaaDoorCheck
import Derived.Deep.AppendLies
namespace Go.Proofs.YtalkhkhnpplofaaDoor
open Go.ChangeShapes Go.WideShapes Go.ChangeAt Go.RowKit
set_option linter.unusedSimpArgs false
set_option linter.unusedVariables false

def pcs (l : List Ins) (k : Nat) : List Nat := (List.range k).filter (fun i => (l[i]?).map (·.k) == some 32)
theorem pcs_yes {l : List Ins} {k : Nat} {x : Ins} (hx : l[k]? = some x) (h : x.k = 32) : pcs l (k + 1) = pcs l k ++ [k] := by
  unfold pcs; rw [List.range_succ, List.filter_append]; simp [hx, h]
theorem pcs_no {l : List Ins} {k : Nat} {x : Ins} (hx : l[k]? = some x) (h : x.k ≠ 32) : pcs l (k + 1) = pcs l k := by
  unfold pcs; rw [List.range_succ, List.filter_append]; simp [hx, h]
theorem pcs_len (l : List Ins) (k : Nat) : (pcs l k).length ≤ k := by
  have := List.length_filter_le (fun i => (l[i]?).map (·.k) == some 32) (List.range k)
  simpa [pcs] using this
theorem ints_add (ss : List Nat) (k : Nat) : intsV (ss ++ [k]) = intsV ss ++ [.int .i64 (k : Int)] := by simp [intsV]
theorem owns_ret {v v' : Value} (h : v = v') : Ending.returned v = .returned v' := by rw [h]
theorem own_ints {w' : World} {B : Nat} {v' : Value} {ss : List Nat} {k : Nat} (h : w'.ownsRow B 3 1 v' (ss.length + 1) (intsV ss ++ [.int .i64 (k : Int)])) : w'.ownsRow B 3 1 v' (ss ++ [k]).length (intsV (ss ++ [k])) := by
  rw [ints_add, List.length_append]; exact h
set_option maxRecDepth 100000 in
set_option maxHeartbeats 2000000 in
theorem procs_any (a : Option Addr) (n cap : Nat) (m s : Int) (l : List Ins) (w : World) (h : SliceC w a l) (hn : l.length = n) (hm : n ≤ 300) :
    Calls Tryd.prog 19 #[.agg #[.slice a n cap, .int .i64 m, .int .i64 s]] w fun e w' => ∃ v, e = .returned v ∧ w'.ownsRow w.heap.size 3 1 v (pcs l n).length (intsV (pcs l n)) ∧ Below w.heap.size w w' := by
  have HA : Hid (Below w.heap.size w (w.alloc (.cells #[.slice a n cap, .int .i64 m, .int .i64 s] 24))) := Lib.hid ((Below.refl _ _).alloc (Nat.le_refl _) _)
  have HS := Lib.hid h
  have HN := Lib.hid hn
  clear h hn
  obtain ⟨i0, hi, hz0, hz1, hz2⟩ := info_parts Tryd.info3
  go_enter Tryd.func19, Tryd.ntmps19
  go_wp2
  go_loopw [3, 9] (fun v x wr => ∃ k : Nat, k ≤ n ∧ x = .int .i64 k ∧ Hid (wr.ownsRow w.heap.size 3 1 v (pcs l k).length (intsV (pcs l k))) ∧ Hid (Below w.heap.size w wr)) (fun _ x _ => n - (intOf x).toNat)
  case atStart => exact ⟨0, by omega, rfl, Lib.hid (World.ownsRow_nil _ _ _ _), HA⟩
  case round =>
    clear HA
    rename_i v x wr
    obtain ⟨k, hk, rfl, HO, HB⟩ := hrel
    by_cases hkn : k < n
    · have hdl : (k : Int) < (n : Int) := by omega
      obtain ⟨x, hx⟩ : ∃ x, l[k]? = some x := ⟨_, List.getElem?_eq_getElem (by have := HN.out; omega)⟩
      obtain ⟨b, o, rfl, hbl, c0, c1, c2, c3, c4⟩ := (HS.out.below HB.out).at hx
      have HX := Lib.hid hx
      have hbs := HB.out.size
      clear hx
      by_cases h32 : x.k = 32
      · have hb0 : (x.k == 32) = true := by simpa using h32
        have H32 := Lib.hid h32
        have hpl := pcs_len l k
        clear h32
        obtain ⟨N, hN⟩ : ∃ N, (pcs l k).length = N := ⟨_, rfl⟩
        have HNN := Lib.hid hN
        have HO2 := Lib.hid (hN ▸ HO.out)
        rw [hN] at hpl
        clear hN
        go_wp2_with (at_builtin; go_loud (refine wpList_append_own _ rfl _ _ 35 rfl w.heap.size 3 i0 (.int .i64 0) 1 8 Tryd.underlying35 hi hz0 hz1 hz2 rfl (by decide) _ N _ rfl ((HO2.out.alloc _).alloc _) ⟨_, 0, none⟩ 1 1 [.int .i64 (k : Int)] rfl rfl ?c1 ?c2 ?c3 ?c4 ?c5 ?_))
        case c1 => exact World.news_of_block (by rw [show wr.heap.size + 1 = (wr.alloc (.cells #[.int .u8 x.k, .int .i64 x.a, .int .i64 x.b, .int .i64 x.c, .int .i64 x.d] 39)).heap.size by simp]; exact heap_alloc_new _ _)
        case c2 => intro u hu; simp at hu; subst hu; rfl
        case c3 => unfold maxLen; omega
        case c4 => omega
        case c5 => simp; omega
        intro v' w1 hown' hgrow _
        have HG := Lib.hid (((HB.out.alloc hbs (.cells #[.int .u8 x.k, .int .i64 x.a, .int .i64 x.b, .int .i64 x.c, .int .i64 x.d] 39)).alloc (by simp; omega) (.cells #[.int .i64 (k : Int)] 3)).grown hgrow (by simp; omega) (fun j hj => (HO2.out.lt j hj).1))
        have HO3 := Lib.hid (own_ints (ss := pcs l k) (by rw [HNN.out]; exact hown'))
        clear hown' hgrow
        go_wp2
        go_roundw
        case rel => exact ⟨k + 1, by omega, by go_num, Lib.hid (by rw [pcs_yes HX.out H32.out]; exact HO3.out), HG⟩
        case measure => simp [intOf]; omega
      · have hb0 : (x.k == 32) = false := by simpa using h32
        have H32 := Lib.hid h32
        clear h32
        go_wp2
        go_roundw
        case rel => exact ⟨k + 1, by omega, by go_num, Lib.hid (by rw [pcs_no HX.out H32.out]; exact HO.out.alloc _), Lib.hid (HB.out.alloc hbs _)⟩
        case measure => simp [intOf]; omega
    · obtain rfl : k = n := by omega
      go_wp2
      go_ret
      exact ⟨_, rfl, HO.out, HB.out⟩
end Go.Proofs.YtalkhkhnpplofaaDoor
