/- LexerSolid answers true for every slice of tokens, and changes nothing that existed; no conditions. -/
import Derived.Test.YteofoakkgkhjcaaRows
import Derived.WalkKit
import Derived.ProofKit
import Derived.OpenShut
import Derived.ShutString
import Derived.ChangeOld
import Derived.Below
import Derived.Test.YteofoakkgkhjcaaArgToks
import Derived.Lib.Hide
import Derived.WalkSmall
import Derived.WalkSpells
import Derived.WalkLawsBesides
import Derived.IntWalk
import Derived.Outline
import Derived.Deep.RegionWith
import Derived.Deep.Cut
import Derived.Deep.QuietTactic
import Derived.BigQuiet
import Derived.Deep.AppendLies
namespace Go.Proofs.Yteofoakkgkhjcaa.lexerSolid
open Go.ChangeShapes Go.WideShapes Go.ChangeAt Go.RowKit
open Go.ChangeMaps (open_string shut_string)
set_option linter.unusedSimpArgs false
set_option linter.unusedVariables false

theorem own : ownKnob Try.prog.godebug = none := by kernel_rfl
theorem laidOut : laidOutB Try.prog = true := by kernel_rfl

theorem joinG_len (l : List GT) (k : Nat) (h : ∀ t ∈ l.take k, t.t.length ≤ 40) : (joinG (l.take k)).length ≤ 40 * k := by
  induction k with
  | zero => simp [joinG]
  | succ k ih =>
    cases hx : l[k]? with
    | none =>
      have : l.take (k + 1) = l.take k := by
        have hl : l.length ≤ k := by
          rcases Nat.lt_or_ge k l.length with h1 | h1
          · rw [List.getElem?_eq_getElem h1] at hx; cases hx
          · exact h1
        rw [List.take_of_length_le (by omega), List.take_of_length_le hl]
      rw [this] at h ⊢
      have := ih h
      omega
    | some t =>
      rw [joinG_take l k t hx, List.length_append]
      have h1 := ih (fun t ht => h t (by rw [List.take_add_one]; exact List.mem_append_left _ ht))
      have h2 := h t (by rw [List.take_add_one, hx]; simp)
      omega
theorem slice_set {w : World} {a : Option Addr} {l : List GT} {g i : Nat} (v : Value) (h : SliceG w a l) (hne : ∀ b o, a = some ⟨b, o, none⟩ → b ≠ g) : SliceG (w.setCell ⟨g, i, none⟩ v) a l := fun hl => by
  obtain ⟨b, o, rfl, h1, h2⟩ := h hl
  have hn := hne b o rfl
  have key : ∀ j, (w.setCell ⟨g, i, none⟩ v).cell? ⟨b, j, none⟩ = w.cell? ⟨b, j, none⟩ := fun j => World.cell?_setCell_other _ _ _ _ (by intro e; simp only [Addr.mk.injEq] at e; omega)
  refine ⟨b, o, rfl, by simpa using h1, fun j t hj => ?_⟩
  rw [key, key, key]
  exact h2 j t hj
theorem slice_drewN {w : World} {a : Option Addr} {l : List GT} (h : SliceG w a l) (n : Nat) : SliceG (w.drewN n) a l := h.below (below_drewN (Below.refl _ _) n)
/-- what stands of a row whose first k texts were overwritten -/
def Left (w : World) (am : Option Addr) (l : List GT) (k : Nat) : Prop := ∀ b o, am = some ⟨b, o, none⟩ → (∀ i, w.frozen? ⟨b, i, none⟩ = false) ∧ b < w.heap.size ∧ ∀ (j : Nat) (t : GT), k ≤ j → l[j]? = some t →
  w.cell? ⟨b, o + j * 3, none⟩ = some (.int .u8 t.k) ∧ w.cell? ⟨b, o + j * 3 + 1, none⟩ = some (.string ⟨t.t.toArray⟩) ∧ w.cell? ⟨b, o + j * 3 + 2, none⟩ = some (.int .i64 t.p)
theorem Left.below {w w' : World} {am : Option Addr} {l : List GT} {k : Nat} (h : Left w am l k) (hb : Below w.heap.size w w') : Left w' am l k := fun b o e => by
  obtain ⟨h1, h2, h3⟩ := h b o e
  refine ⟨fun i => ?_, Nat.lt_of_lt_of_le h2 hb.size, fun j t hj hx => ?_⟩
  · rw [hb.frozen (p := ⟨b, i, none⟩) h2]; exact h1 i
  · obtain ⟨c0, c1, c2⟩ := h3 j t hj hx
    exact ⟨(hb.cell (p := ⟨b, o + j * 3, none⟩) h2).trans c0, (hb.cell (p := ⟨b, o + j * 3 + 1, none⟩) h2).trans c1, (hb.cell (p := ⟨b, o + j * 3 + 2, none⟩) h2).trans c2⟩
theorem Left.set {w : World} {b o : Nat} {l : List GT} {k : Nat} (h : Left w (some ⟨b, o, none⟩) l k) (v : Value) : Left (w.setCell ⟨b, o + k * 3 + 1, none⟩ v) (some ⟨b, o, none⟩) l (k + 1) := fun b' o' e => by
  cases e
  obtain ⟨h1, h2, h3⟩ := h b o rfl
  have key : ∀ x, o + (k + 1) * 3 ≤ x → (w.setCell ⟨b, o + k * 3 + 1, none⟩ v).cell? ⟨b, x, none⟩ = w.cell? ⟨b, x, none⟩ := fun x hx => World.cell?_setCell_other _ _ _ _ (by intro e; simp only [Addr.mk.injEq] at e; omega)
  refine ⟨fun i => by rw [World.frozen?_setCell]; exact h1 i, by simpa using h2, fun j t hj hx => ?_⟩
  rw [key _ (by omega), key _ (by omega), key _ (by omega)]
  exact h3 j t (by omega) hx
theorem left_of {w : World} {base e : Nat} {v : Value} {l : List GT} (h : w.ownsRow base e 3 v l.length (l.flatMap cellsG)) : ∃ a cap, v = .slice a l.length cap ∧ Left w a l 0 ∧ (∀ b o, a = some ⟨b, o, none⟩ → base ≤ b) ∧ (l ≠ [] → ∃ b o, a = some ⟨b, o, none⟩) := by
  obtain ⟨a, cap, rfl, h2, h3⟩ := toksG_of h
  refine ⟨a, cap, rfl, fun b o e => ?_, fun b o e => (h3 b o e).2, fun hl => ?_⟩
  · subst e
    rcases h.2 with ⟨hv, hn⟩ | ⟨g, cap', cur, hv, _, hg, _⟩
    · cases hv
    · cases hv
      refine ⟨fun i => frozen_of_row w _ i cur e hg, (Array.getElem?_eq_some_iff.1 hg).1, fun j t _ hx => ?_⟩
      obtain ⟨b', o', e', _, ht⟩ := h2 (fun e => by rw [e] at hx; simp at hx)
      cases e'
      exact ht j t hx
  · obtain ⟨b, o, e, _⟩ := h2 hl
    exact ⟨b, o, e⟩
theorem str_app (s : ByteArray) (x y : List UInt8) (h : s = ⟨x.toArray⟩) : s ++ (⟨y.toArray⟩ : ByteArray) = ⟨(x ++ y).toArray⟩ := by
  subst h
  apply Go.WideShapes.bytes_inj
  simp [ByteArray.data_append]

set_option maxRecDepth 100000 in
set_option maxHeartbeats 1000000 in
theorem walk (a0 : Option Addr) (n0 cap0 : Nat) (l0 : List GT) (w : World) (w0 : l0.length = n0) (x0 : SliceG w a0 l0) (y0 : ∀ t ∈ l0, t.t.length ≤ maxLen) :
    Calls Try.prog 8 #[.slice a0 n0 cap0] w fun e w' => e = .returned (.bool true) ∧ Below w.heap.size w w' := by
  have HW : Below w.heap.size w w := Below.refl _ _
  subst w0
  by_cases hbig : 60 < l0.length
  · have hd : decide ((60 : Int) < (l0.length : Int)) = true := by simp; omega
    go_enter Try.func8, Try.ntmps8
    go_wp2_with (go_at_call 12; refine (awake_any _).mono ?_; rintro e w1 ⟨rfl, hb⟩; replace HW := below_on HW hb; clear hb)
    go_ret
    exact ⟨rfl, HW⟩
  have hd : decide ((60 : Int) < (l0.length : Int)) = false := by simp; omega
  have hd2 : ¬ (60 : Int) < (l0.length : Int) := by omega
  obtain ⟨i0, hi, hz0, hz1, hz2⟩ := info_parts Try.info33
  have HX := Lib.hid x0
  have HY := Lib.hid y0
  clear x0 y0
  go_enter Try.func8, Try.ntmps8
  go_wp2_with (go_at_call 12; refine (awake_any _).mono ?_; rintro e w1 ⟨rfl, hb⟩; replace HW := below_on HW hb; clear hb)
  have HXW := Lib.hid (HX.out.below HW)
  go_loopw [3, 4, 5] (fun s v i wr => ∃ k : Nat, k ≤ l0.length ∧ i = .int .i64 k ∧ s = .string ⟨(joinG (l0.take k)).toArray⟩ ∧ Hid (∀ t ∈ l0.take k, t.t.length ≤ 40) ∧ Hid (wr.ownsRow w1.heap.size 33 3 v (solidG (l0.take k)).length ((solidG (l0.take k)).flatMap cellsG)) ∧ Hid (Below w1.heap.size w1 wr)) (fun _ _ i _ => l0.length - (intOf i).toNat)
  case atStart => exact ⟨0, by omega, rfl, rfl, Lib.hid (fun t ht => by simp at ht), Lib.hid (World.ownsRow_nil _ _ _ _), Lib.hid (Below.refl _ _)⟩
  case round =>
    obtain ⟨k, hk, rfl, rfl, H40, HO, HB⟩ := hrel
    by_cases hkl : k < l0.length
    · obtain ⟨t, hx⟩ : ∃ t, l0[k]? = some t := ⟨_, List.getElem?_eq_getElem hkl⟩
      obtain ⟨b, o, rfl, hlt, ht⟩ := HXW.out (fun e => by rw [e] at hkl; simp at hkl)
      obtain ⟨c0, c1, c2⟩ := ht k t hx
      replace c0 := (HB.out.cell (p := ⟨b, o + k * 3, none⟩) hlt).trans c0
      replace c1 := (HB.out.cell (p := ⟨b, o + k * 3 + 1, none⟩) hlt).trans c1
      replace c2 := (HB.out.cell (p := ⟨b, o + k * 3 + 2, none⟩) hlt).trans c2
      have hsz := HB.out.size
      have hst := solidG_succ l0 k t hx
      have hjn := joinG_take l0 k t hx
      have hz : b < wr.heap.size := by omega
      have hts : (⟨t.t.toArray⟩ : ByteArray).size = t.t.length := rfl
      have hj40 := joinG_len l0 k H40.out
      have H40' : t.t.length ≤ 40 → Hid (∀ t ∈ l0.take (k + 1), t.t.length ≤ 40) := fun h => Lib.hid fun t' ht' => by
        rw [List.take_add_one, hx] at ht'
        rcases List.mem_append.1 ht' with h1 | h1
        · exact H40.out t' h1
        · simp at h1; rw [h1]; exact h
      have happ := str_app _ (joinG (l0.take k)) t.t rfl
      rw [← hjn] at happ
      have HAPP := Lib.hid happ
      have hlen : (solidG (l0.take k)).length ≤ 60 := by
        have := solidG_len (l0.take k)
        rw [List.length_take] at this; omega
      have HLEN := Lib.hid hlen
      clear ht hx hlen happ hjn
      by_cases h40 : 40 < t.t.length
      · have HR := HW.trans (HB.out.mono HW.size)
        have hs3 : decide ((40 : Int) < ((⟨t.t.toArray⟩ : ByteArray).size : Int)) = true := by rw [hts]; simp; omega
        have hs4 : (40 : Int) < ((⟨t.t.toArray⟩ : ByteArray).size : Int) := by rw [hts]; omega
        clear H40' HAPP hst hts
        generalize (⟨t.t.toArray⟩ : ByteArray) = T at *
        go_wp2
        go_ret
        exact ⟨rfl, HR⟩
      · have hs3 : decide ((40 : Int) < ((⟨t.t.toArray⟩ : ByteArray).size : Int)) = false := by rw [hts]; simp; omega
        have hs4 : ¬ (40 : Int) < ((⟨t.t.toArray⟩ : ByteArray).size : Int) := by rw [hts]; omega
        have H4 := H40' (by omega)
        clear H40' hts h40
        have HSK : Hid (cellsG t = [.int .u8 t.k, .string ⟨t.t.toArray⟩, .int .i64 t.p]) := Lib.hid rfl
        obtain ⟨T, hT⟩ : ∃ T : ByteArray, T = ⟨t.t.toArray⟩ := ⟨_, rfl⟩
        rw [← hT] at c1 hs3 hs4 HAPP HSK
        clear hT
        cases b1 : (t.k == 4)
        · have n1 : (t.k != 4) = true := by simpa using b1
          have m1 : ¬ t.k = 4 := by simpa using b1
          cases b2 : (t.k == 5)
          · have n2 : (t.k != 5) = true := by simpa using b2
            have m2 : ¬ t.k = 5 := by simpa using b2
            have hsol : isSolidG t = true := by unfold isSolidG; simp only [bne, b1, b2]; rfl
            rw [if_pos hsol] at hst
            have HST := Lib.hid hst
            clear hst hsol
            go_wp2_with (at_builtin; refine wpList_append_own _ rfl _ _ 23 rfl w1.heap.size 33 i0 (.agg #[.int .u8 0, .string ⟨#[]⟩, .int .i64 0]) 3 32 Try.underlying23 hi hz0 hz1 hz2 rfl (by decide) _ _ _ rfl (HO.out.alloc _) ⟨wr.heap.size, 0, none⟩ 1 1 [.int .u8 t.k, .string T, .int .i64 t.p] rfl rfl (World.news_of_block (heap_alloc_new _ _)) (by intro u hu; simp at hu; rcases hu with rfl | rfl | rfl <;> rfl) (by have := HLEN.out; unfold maxLen; omega) (by have := HLEN.out; omega) (by have := HB.out.size; simp; omega) ?_; intro v' w4 hown' hgrow _; have HGR := Lib.hid (And.intro hown' hgrow); clear hown' hgrow)
            have hb4 := (HB.out.alloc hsz (.cells #[.int .u8 t.k, .string T, .int .i64 t.p] 33)).grown HGR.out.2 (by simp; omega) (fun j hj => by have := (HO.out.lt j hj).1; omega)
            have hown2 := HGR.out.1
            have e1 : (solidG (l0.take (k + 1))).length = (solidG (l0.take k)).length + 1 := by rw [HST.out]; simp
            have e2 : (solidG (l0.take (k + 1))).flatMap cellsG = (solidG (l0.take k)).flatMap cellsG ++ [.int .u8 t.k, .string T, .int .i64 t.p] := by rw [HST.out, List.flatMap_append, ← HSK.out]; simp
            rw [← e1, ← e2] at hown2
            have HO2 := Lib.hid hown2
            have HB2 := Lib.hid hb4
            clear hown2 hb4 HGR e1 e2 HO HB c0 c1 c2
            go_wp2
            go_roundw
            case rel => exact ⟨k + 1, by omega, by go_num, by rw [HAPP.out], H4, HO2, HB2⟩
            case measure => simp [intOf]; omega
          · have n2 : (t.k != 5) = false := by simpa using b2
            have m2 : t.k = 5 := by simpa using b2
            have hsol : ¬ isSolidG t = true := by unfold isSolidG; simp [bne, b1, b2]
            rw [if_neg hsol, List.append_nil] at hst
            have HST := Lib.hid hst
            clear hst hsol
            go_wp2
            go_roundw
            case rel => exact ⟨k + 1, by omega, by go_num, by rw [HAPP.out], H4, Lib.hid (by rw [HST.out]; exact HO.out), HB⟩
            case measure => simp [intOf]; omega
        · have n1 : (t.k != 4) = false := by simpa using b1
          have m1 : t.k = 4 := by simpa using b1
          have hsol : ¬ isSolidG t = true := by unfold isSolidG; simp [bne, b1]
          rw [if_neg hsol, List.append_nil] at hst
          have HST := Lib.hid hst
          clear hst hsol
          go_wp2
          go_roundw
          case rel => exact ⟨k + 1, by omega, by go_num, by rw [HAPP.out], H4, Lib.hid (by rw [HST.out]; exact HO.out), HB⟩
          case measure => simp [intOf]; omega
    · obtain rfl : k = l0.length := by omega
      have efull : l0.take l0.length = l0 := List.take_length
      rw [efull] at HO
      have hj40 := joinG_len l0 l0.length H40.out
      rw [efull] at hj40 ⊢
      obtain ⟨ak, ck, rfl, hk2, -⟩ := toksG_of HO.out
      have HK := Lib.hid hk2
      have hnb : (solidG l0).length ≤ 60 := by have := solidG_len l0; omega
      have HJ : Hid ((joinG l0).length ≤ 65536) := Lib.hid (by omega)
      have hl65 : l0.length ≤ 65536 := by omega
      have HLT : Hid (∀ b o, ak = some ⟨b, o, none⟩ → solidG l0 ≠ [] → b < wr.heap.size) := Lib.hid fun b o e hl => by
        obtain ⟨b', o', e', h1, _⟩ := HK.out hl
        rw [e] at e'; cases e'; exact h1
      have HSX := Lib.hid (HXW.out.below HB.out)
      have HR := HW.trans (HB.out.mono HW.size)
      have HNEQ := @neq_same
      obtain ⟨ns, hns⟩ : ∃ n, (solidG l0).length = n := ⟨_, rfl⟩
      have HNS := Lib.hid hns
      rw [hns] at hnb
      rw [hns]
      have hsame : ((joinG l0).toArray == (joinG l0).toArray) = true := by simp
      clear HO hk2 hj40 H40 efull hns HXW
      go_wp2_with (first
        | (go_at_call 17; refine (solid_any _ _ l0 _ HSX.out hl65).mono ?_; rintro e w2 ⟨v2, rfl, ho, hb⟩; obtain ⟨am, cm, rfl, hL, hbm, hsm⟩ := left_of ho; have HL := Lib.hid hL; have HBM := Lib.hid hbm; have HSM := Lib.hid hsm; rw [HNS.out]; replace HR := below_on HR hb; replace HSX := Lib.hid (HSX.out.below hb); replace HK := Lib.hid (HK.out.below hb); have HB2 := Lib.hid hb; clear hb ho hL hbm hsm)
        | (go_at_call 16; refine (joinG_any _ _ l0 _ HSX.out HJ.out hl65).mono ?_; rintro e w3 ⟨rfl, hb⟩; replace HR := below_on HR hb; replace HSX := Lib.hid (HSX.out.below hb); replace HK := Lib.hid (HK.out.below hb); replace HL := Lib.hid (HL.out.below hb); replace HB2 := Lib.hid (HB2.out.trans (hb.mono HB2.out.size)); clear hb))
      go_loopw [7] (fun i wq => ∃ k : Nat, k ≤ ns ∧ i = .int .i64 k ∧ Hid (SliceG wq ak (solidG l0)) ∧ Hid (Left wq am (solidG l0) k) ∧ Hid (Below wr.heap.size wr wq)) (fun i _ => ns - (intOf i).toNat)
      case atStart => exact ⟨0, by omega, rfl, HK, HL, HB2⟩
      case round =>
        clear HK HL
        obtain ⟨k, hk, rfl, HK, HL, HB3⟩ := hrel
        by_cases hkl2 : k < ns
        · obtain ⟨t, hx⟩ : ∃ t, (solidG l0)[k]? = some t := ⟨_, List.getElem?_eq_getElem (by have := HNS.out; omega)⟩
          have hne : solidG l0 ≠ [] := fun e => by rw [e] at hx; simp at hx
          obtain ⟨bk, ok, rfl, hlk, htk⟩ := HK.out hne
          obtain ⟨bm, om, rfl⟩ := HSM.out hne
          obtain ⟨d0, d1, d2⟩ := htk k t hx
          obtain ⟨hfz, hlm, htm⟩ := HL.out bm om rfl
          obtain ⟨c0, c1, c2⟩ := htm k t (Nat.le_refl _) hx
          have hfz1 := hfz (om + k * 3 + 1)
          have hbk := HLT.out bk ok rfl hne
          have hbm := HBM.out bm om rfl
          have hneb : bk ≠ bm := by omega
          have hdl : (k : Int) < (ns : Int) := by omega
          clear htk htm hx hne hfz
          generalize (⟨t.t.toArray⟩ : ByteArray) = T at *
          go_wp2
          go_quiet (fail)
          go_wp2
          go_roundw
          case rel =>
            refine ⟨k + 1, by omega, by go_num, Lib.hid (slice_set _ (slice_drewN HK.out _) (fun b o e => by cases e; exact hneb)), Lib.hid (Left.set (HL.out.below (below_drewN (Below.refl _ _) _)) _), Lib.hid ?_⟩
            exact (below_drewN HB3.out _).setCell (p := ⟨bm, om + k * 3 + 1, none⟩) hbm _
          case measure => simp [intOf]; omega
        · obtain rfl : k = ns := by omega
          have HR3 := (HW.trans (HB.out.mono HW.size)).trans (HB3.out.mono (by have := HW.size; have := HB.out.size; omega))
          have HSX3 : Hid (SliceG _ a0 l0) := Lib.hid ((HX.out.below HW |>.below HB.out).below HB3.out)
          clear HR HSX
          go_wp2_with (go_at_call 16; refine (joinG_any _ _ l0 _ HSX3.out HJ.out hl65).mono ?_; rintro e w3 ⟨rfl, hb⟩; replace HR3 := below_on HR3 hb; clear hb)
          refine bodyPost_ret (v := .bool true) (by simp [results, Try.results8, go_sem]) rfl ?_
          exact ⟨rfl, HR3⟩

set_option maxRecDepth 100000 in
theorem lifted (os : Os) (started : os.Started) (H : Type) (enc : TypeId × Value → H) :
    ReturnsInHanded {} Try.checked os 8 .any (Rows.lexerSolidSpec.pre6 enc Try.prog Try.f8 Rows.lexerSolidRow.domain false) (Rows.lexerSolidSpec.post enc Try.prog Try.f8 false true false false) := by
  refine returnsInHanded_of_change (C := Try.checked) own started (by kernel_rfl) Try.func8
    (ChangeSpec.witness6 (enc := enc) (C := Try.checked) false ⟨#[], #[.slice none 0 0], []⟩ 8 (by kernel_rfl) (by kernel_rfl) (by kernel_rfl) (by kernel_rfl)) ?_
  intro W base args ds gs before hval0 hW hcnd _
  have hval : ∀ (j : Nat) t v, Try.f8.params[j]? = some t → args[j]? = some v → Value.okWide Try.prog W .any base t v := hval0
  have hW' := hW
  obtain ⟨p, q, hA0, hV, rfl, hfz, hnd⟩ := hW
  have hA : DataW.TrodAll enc Try.prog W 0 (fun _ => true) true Try.f8.params.toList args.toList ds p := hA0
  rw [Try.params8] at hA hval
  obtain ⟨v0, vs0, d0, ds0, p0, q0, hargs, rfl, rfl, h0, r0⟩ := trodAll_cons hA
  obtain ⟨rfl, rfl, rfl⟩ := trodAll_nil r0
  obtain rfl : args = #[v0] := by cases args; simp_all
  obtain ⟨rfl, rfl⟩ := trodVars_none hV
  have k0 := h0
  have lt0 : ∀ x ∈ p0, x.block < W.heap.size := by obtain ⟨m, hm⟩ := k0; exact DataW.trod_lt m _ _ _ hm
  obtain ⟨a0, n0, cap0, l0, rfl, w0, x0, y0⟩ := open_toks (hval 0 23 v0 rfl rfl) h0
  clear hA0 hval0
  refine (walk a0 n0 cap0 l0 W w0 x0 y0).mono fun e W' ⟨he, bel⟩ => ?_
  subst he
  exact ⟨_, rfl, _, _, _, [], _, [], hW', trodAll_mk1 (shut_bool Try.underlying4 _), (trodAll_cons_mk (Below.trod laidOut (by kernel_rfl) (of_decide_eq_true (by kernel_rfl)) k0 bel lt0) trodAll_mk0), rfl, bel.frame _, fun h => by cases h⟩

theorem over : Rows.lexerSolidRow.holds Try.pinned (OpenSpec.ofChange Rows.lexerSolidSpec) :=
  OpenClaim.holds_of_wide 8 Try.f8 rfl rfl rfl rfl rfl rfl rfl ⟨rfl, rfl, rfl, rfl, rfl⟩ rfl rfl rfl rfl rfl (by kernel_rfl) Try.func8 (by kernel_rfl)
    (of_decide_eq_true (by kernel_rfl)) (by unfold Func.isWrapper; first | (rw [if_pos (by decide +kernel)]; kernel_rfl) | (rw [if_neg (by decide +kernel)]; exact ⟨rfl, rfl⟩))
    (fun os started H enc _ => lifted os started H enc)

theorem proved : Rows.LexerSolidSaid := over
#print axioms proved
end Go.Proofs.Yteofoakkgkhjcaa.lexerSolid
