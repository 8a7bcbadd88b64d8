/- TapeNew answers true for all sequences, and changes nothing that existed; no conditions. -/
import Derived.Test.YthbeillgpnffmaaRows
import Derived.WalkKit
import Derived.ProofKit
import Derived.OpenShut
import Derived.ShutString
import Derived.ChangeOld
import Derived.Below
import Derived.Test.YthbeillgpnffmaaRows2
import Derived.Lib.Hide
import Derived.WalkSmall
import Derived.WalkSpells
import Derived.WalkLawsBesides
import Derived.IntWalk
import Derived.Outline
import Derived.Deep.QuietTactic
import Derived.BigQuiet
import Derived.Deep.RegionWith
namespace Go.Proofs.Ythbeillgpnffmaa.tapeNew
open Go.ChangeShapes Go.WideShapes Go.ChangeAt Go.RowKit
open Go.ChangeMaps (open_string shut_string)
set_option linter.unusedSimpArgs false
set_option linter.unusedVariables false

theorem own : ownKnob Try.prog.godebug = none := by kernel_rfl
theorem laidOut : laidOutB Try.prog = true := by kernel_rfl

set_option maxRecDepth 100000 in
set_option maxHeartbeats 1000000 in
theorem walk (a0 : Option Addr) (n0 cap0 : Nat) (l0 : List Int) (a1 : Option Addr) (n1 cap1 : Nat) (l1 : List Int) (w : World) (w0 : l0.length = n0) (x0 : SliceI w a0 l0) (y0 : n0 ≤ cap0) (w1 : l1.length = n1) (x1 : SliceI w a1 l1) (y1 : n1 ≤ cap1) :
    Calls Try.prog 3 #[.slice a0 n0 cap0, .slice a1 n1 cap1] w fun e w' => e = .returned (.bool true) ∧ Below w.heap.size w w' := by
  subst w0 w1
  have HX0 := Lib.hid x0
  have HX1 := Lib.hid x1
  clear x0 x1
  by_cases hg : 5000 < l0.length ∨ 5000 < l1.length
  · have hgr : Hid (greatB l0.length l1.length 0 = true) := Lib.hid (by unfold greatB; rcases hg with h | h <;> simp [h])
    go_enter Try.func3, Try.ntmps3
    go_wp2_with (first | (go_at_call 11; refine (awake_any _).mono ?_; rintro e w1 ⟨rfl, hb⟩; have HB := Lib.hid hb; clear hb) | (go_at_call 12; refine (great_any _ _ _ _ _ _ _ _ _ _).mono ?_; rintro e w1 ⟨rfl, rfl⟩; rw [hgr.out]))
    go_ret
    exact ⟨rfl, HB.out⟩
  have hgr : Hid (greatB l0.length l1.length 0 = false) := Lib.hid (by unfold greatB; simp; omega)
  have hb0 : l0.length ≤ 5000 := by omega
  have hb1 : l1.length ≤ 5000 := by omega
  clear hg
  by_cases hf : 4096 < l0.length ∨ 4096 < l1.length
  · by_cases h0 : 4096 < l0.length
    · have hd : decide ((4096 : Int) < (l0.length : Int)) = true := by simp; omega
      go_enter Try.func3, Try.ntmps3
      go_wp2_with (first
        | (go_at_call 11; refine (awake_any _).mono ?_; rintro e w1 ⟨rfl, hb⟩; have HB := Lib.hid hb; clear hb)
        | (go_at_call 12; refine (great_any _ _ _ _ _ _ _ _ _ _).mono ?_; rintro e w1 ⟨rfl, rfl⟩; rw [hgr.out])
        | (at_builtin; go_loud (refine wpList_app rfl _ _ rfl w1.heap.size _ [] rfl ?_ _ _ l0 rfl ?_ ?_ ?_ ?_ ?_; exact (row_here [] (by first | omega | (simp; done) | (simp; omega)) (heap_new' _ _ (by simp)) rfl (by first | omega | (simp; done) | (simp; omega))); exact (HX0.out.below HB.out).alloc _; exact (by first | omega | (simp; done) | (simp; omega)); exact (by first | omega | (simp; done) | (simp; omega)); exact (by first | omega | (simp; done) | (simp; omega)); intro va w4 hown' hgrow; have HB4 := Lib.hid (grown_below (w0 := w1) ((Below.refl w1.heap.size w1).alloc (by first | omega | (simp; done) | (simp; omega)) _) hgrow (by first | omega | (simp; done) | (simp; omega)) (fun k hk => by cases hk; first | exact Nat.le_refl _ | (simp; done) | (simp; omega))); rw [List.length_nil, Nat.zero_add, List.nil_append] at hown'; have HO4 := Lib.hid hown'; clear hown' hgrow; have HW4 := Lib.hid (below_on HB.out HB4.out); obtain ⟨aa, ca, hva, -, -⟩ := (ownI_of_row HO4.out).1.val; subst hva; have HA4 := Lib.hid (ownI_of_row HO4.out).1; have HVA : Hid (∀ k, blk (.slice aa l0.length ca) k → w1.heap.size ≤ k ∧ k < w4.heap.size) := Lib.hid (fun k hk => ⟨(ownI_of_row HO4.out).2 k hk, (ownI_of_row HO4.out).1.lt k hk⟩); clear HO4))
        | (at_builtin; go_loud (refine wpList_app rfl _ _ rfl w4.heap.size _ [] rfl ?_ _ _ l1 rfl ?_ ?_ ?_ ?_ ?_; exact (row_here [] (by first | omega | (simp; done) | (simp; omega)) (heap_new' _ _ (by simp)) rfl (by first | omega | (simp; done) | (simp; omega))); exact (HX1.out.below HW4.out).alloc _; exact (by first | omega | (simp; done) | (simp; omega)); exact (by first | omega | (simp; done) | (simp; omega)); exact (by first | omega | (simp; done) | (simp; omega)); intro vb w5 hown' hgrow; have HB5 := Lib.hid (grown_below (w0 := w4) ((Below.refl w4.heap.size w4).alloc (by first | omega | (simp; done) | (simp; omega)) _) hgrow (by first | omega | (simp; done) | (simp; omega)) (fun k hk => by cases hk; first | exact Nat.le_refl _ | (simp; done) | (simp; omega))); rw [List.length_nil, Nat.zero_add, List.nil_append] at hown'; have HO5 := Lib.hid hown'; clear hown' hgrow; have HW5 := Lib.hid (below_on HW4.out HB5.out); obtain ⟨ab, cb, hvb, -, -⟩ := (ownI_of_row HO5.out).1.val; subst hvb; have HA5 := Lib.hid (HA4.out.keep (fun k hk => HB5.out.block k (HVA.out k hk).2)); have HC5 := Lib.hid (ownI_of_row HO5.out).1; have HVB : Hid (∀ k, blk (.slice ab l1.length cb) k → w4.heap.size ≤ k ∧ k < w5.heap.size) := Lib.hid (fun k hk => ⟨(ownI_of_row HO5.out).2 k hk, (ownI_of_row HO5.out).1.lt k hk⟩); clear HO5 HA4))
        | (go_at_call 13; refine (new_full _ _ _ _ _ _ _ hf).mono ?_; rintro e w6 ⟨rfl, rfl⟩))
      go_ret
      exact ⟨rfl, HW5.out⟩
    · have hd : decide ((4096 : Int) < (l0.length : Int)) = false := by simp; omega
      have hd2 : decide ((4096 : Int) < (l1.length : Int)) = true := by simp; omega
      go_enter Try.func3, Try.ntmps3
      go_wp2_with (first
        | (go_at_call 11; refine (awake_any _).mono ?_; rintro e w1 ⟨rfl, hb⟩; have HB := Lib.hid hb; clear hb)
        | (go_at_call 12; refine (great_any _ _ _ _ _ _ _ _ _ _).mono ?_; rintro e w1 ⟨rfl, rfl⟩; rw [hgr.out])
        | (at_builtin; go_loud (refine wpList_app rfl _ _ rfl w1.heap.size _ [] rfl ?_ _ _ l0 rfl ?_ ?_ ?_ ?_ ?_; exact (row_here [] (by first | omega | (simp; done) | (simp; omega)) (heap_new' _ _ (by simp)) rfl (by first | omega | (simp; done) | (simp; omega))); exact (HX0.out.below HB.out).alloc _; exact (by first | omega | (simp; done) | (simp; omega)); exact (by first | omega | (simp; done) | (simp; omega)); exact (by first | omega | (simp; done) | (simp; omega)); intro va w4 hown' hgrow; have HB4 := Lib.hid (grown_below (w0 := w1) ((Below.refl w1.heap.size w1).alloc (by first | omega | (simp; done) | (simp; omega)) _) hgrow (by first | omega | (simp; done) | (simp; omega)) (fun k hk => by cases hk; first | exact Nat.le_refl _ | (simp; done) | (simp; omega))); rw [List.length_nil, Nat.zero_add, List.nil_append] at hown'; have HO4 := Lib.hid hown'; clear hown' hgrow; have HW4 := Lib.hid (below_on HB.out HB4.out); obtain ⟨aa, ca, hva, -, -⟩ := (ownI_of_row HO4.out).1.val; subst hva; have HA4 := Lib.hid (ownI_of_row HO4.out).1; have HVA : Hid (∀ k, blk (.slice aa l0.length ca) k → w1.heap.size ≤ k ∧ k < w4.heap.size) := Lib.hid (fun k hk => ⟨(ownI_of_row HO4.out).2 k hk, (ownI_of_row HO4.out).1.lt k hk⟩); clear HO4))
        | (at_builtin; go_loud (refine wpList_app rfl _ _ rfl w4.heap.size _ [] rfl ?_ _ _ l1 rfl ?_ ?_ ?_ ?_ ?_; exact (row_here [] (by first | omega | (simp; done) | (simp; omega)) (heap_new' _ _ (by simp)) rfl (by first | omega | (simp; done) | (simp; omega))); exact (HX1.out.below HW4.out).alloc _; exact (by first | omega | (simp; done) | (simp; omega)); exact (by first | omega | (simp; done) | (simp; omega)); exact (by first | omega | (simp; done) | (simp; omega)); intro vb w5 hown' hgrow; have HB5 := Lib.hid (grown_below (w0 := w4) ((Below.refl w4.heap.size w4).alloc (by first | omega | (simp; done) | (simp; omega)) _) hgrow (by first | omega | (simp; done) | (simp; omega)) (fun k hk => by cases hk; first | exact Nat.le_refl _ | (simp; done) | (simp; omega))); rw [List.length_nil, Nat.zero_add, List.nil_append] at hown'; have HO5 := Lib.hid hown'; clear hown' hgrow; have HW5 := Lib.hid (below_on HW4.out HB5.out); obtain ⟨ab, cb, hvb, -, -⟩ := (ownI_of_row HO5.out).1.val; subst hvb; have HA5 := Lib.hid (HA4.out.keep (fun k hk => HB5.out.block k (HVA.out k hk).2)); have HC5 := Lib.hid (ownI_of_row HO5.out).1; have HVB : Hid (∀ k, blk (.slice ab l1.length cb) k → w4.heap.size ≤ k ∧ k < w5.heap.size) := Lib.hid (fun k hk => ⟨(ownI_of_row HO5.out).2 k hk, (ownI_of_row HO5.out).1.lt k hk⟩); clear HO5 HA4))
        | (go_at_call 13; refine (new_full _ _ _ _ _ _ _ hf).mono ?_; rintro e w6 ⟨rfl, rfl⟩))
      go_ret
      exact ⟨rfl, HW5.out⟩
  have hd : decide ((4096 : Int) < (l0.length : Int)) = false := by simp; omega
  have hd2 : decide ((4096 : Int) < (l1.length : Int)) = false := by simp; omega
  have hf0 : l0.length ≤ 4096 := by omega
  have hf1 : l1.length ≤ 4096 := by omega
  clear hf
  go_enter Try.func3, Try.ntmps3
  go_wp2_with (first
    | (go_at_call 11; refine (awake_any _).mono ?_; rintro e w1 ⟨rfl, hb⟩; have HB := Lib.hid hb; clear hb)
    | (go_at_call 12; refine (great_any _ _ _ _ _ _ _ _ _ _).mono ?_; rintro e w1 ⟨rfl, rfl⟩; rw [hgr.out])
    | (at_builtin; go_loud (refine wpList_app rfl _ _ rfl w1.heap.size _ [] rfl ?_ _ _ l0 rfl ?_ ?_ ?_ ?_ ?_; exact (row_here [] (by first | omega | (simp; done) | (simp; omega)) (heap_new' _ _ (by simp)) rfl (by first | omega | (simp; done) | (simp; omega))); exact (HX0.out.below HB.out).alloc _; exact (by first | omega | (simp; done) | (simp; omega)); exact (by first | omega | (simp; done) | (simp; omega)); exact (by first | omega | (simp; done) | (simp; omega)); intro va w4 hown' hgrow; have HB4 := Lib.hid (grown_below (w0 := w1) ((Below.refl w1.heap.size w1).alloc (by first | omega | (simp; done) | (simp; omega)) _) hgrow (by first | omega | (simp; done) | (simp; omega)) (fun k hk => by cases hk; first | exact Nat.le_refl _ | (simp; done) | (simp; omega))); rw [List.length_nil, Nat.zero_add, List.nil_append] at hown'; have HO4 := Lib.hid hown'; clear hown' hgrow; have HW4 := Lib.hid (below_on HB.out HB4.out); obtain ⟨aa, ca, hva, -, -⟩ := (ownI_of_row HO4.out).1.val; subst hva; have HA4 := Lib.hid (ownI_of_row HO4.out).1; have HVA : Hid (∀ k, blk (.slice aa l0.length ca) k → w1.heap.size ≤ k ∧ k < w4.heap.size) := Lib.hid (fun k hk => ⟨(ownI_of_row HO4.out).2 k hk, (ownI_of_row HO4.out).1.lt k hk⟩); clear HO4))
    | (at_builtin; go_loud (refine wpList_app rfl _ _ rfl w4.heap.size _ [] rfl ?_ _ _ l1 rfl ?_ ?_ ?_ ?_ ?_; exact (row_here [] (by first | omega | (simp; done) | (simp; omega)) (heap_new' _ _ (by simp)) rfl (by first | omega | (simp; done) | (simp; omega))); exact (HX1.out.below HW4.out).alloc _; exact (by first | omega | (simp; done) | (simp; omega)); exact (by first | omega | (simp; done) | (simp; omega)); exact (by first | omega | (simp; done) | (simp; omega)); intro vb w5 hown' hgrow; have HB5 := Lib.hid (grown_below (w0 := w4) ((Below.refl w4.heap.size w4).alloc (by first | omega | (simp; done) | (simp; omega)) _) hgrow (by first | omega | (simp; done) | (simp; omega)) (fun k hk => by cases hk; first | exact Nat.le_refl _ | (simp; done) | (simp; omega))); rw [List.length_nil, Nat.zero_add, List.nil_append] at hown'; have HO5 := Lib.hid hown'; clear hown' hgrow; have HW5 := Lib.hid (below_on HW4.out HB5.out); obtain ⟨ab, cb, hvb, -, -⟩ := (ownI_of_row HO5.out).1.val; subst hvb; have HA5 := Lib.hid (HA4.out.keep (fun k hk => HB5.out.block k (HVA.out k hk).2)); have HC5 := Lib.hid (ownI_of_row HO5.out).1; have HVB : Hid (∀ k, blk (.slice ab l1.length cb) k → w4.heap.size ≤ k ∧ k < w5.heap.size) := Lib.hid (fun k hk => ⟨(ownI_of_row HO5.out).2 k hk, (ownI_of_row HO5.out).1.lt k hk⟩); clear HO5 HA4))
    | (go_at_call 13; go_loud (refine (new_okF _ _ _ _ _ _ l0 l1 _ (slice_of_own HA5.out) (slice_of_own HC5.out) rfl rfl hf0 hf1).mono ?_; rintro e w6 ⟨p, F, rfl, ht, hF, hb⟩; have HT6 := Lib.hid ht; have HF := Lib.hid hF; have HW6 := Lib.hid (below_on HW5.out hb); have HA6 := Lib.hid (HA5.out.keep (fun k hk => hb.block k (Nat.lt_of_lt_of_le (HVA.out k hk).2 HB5.out.size))); have HC6 := Lib.hid (HC5.out.keep (fun k hk => hb.block k (HVB.out k hk).2)); clear ht hF hb)))
  clear hd hd2 HA5 HC5
  have s1 : Hid (w.heap.size ≤ w1.heap.size) := Lib.hid HB.out.size
  have s4 : Hid (w1.heap.size ≤ w4.heap.size) := Lib.hid HB4.out.size
  have s5 : Hid (w4.heap.size ≤ w5.heap.size) := Lib.hid HB5.out.size
  go_loopw [52] (fun i wr => ∃ k : Nat, k ≤ l0.length ∧ i = .int .i64 k ∧ Hid (∃ zs : List Int, zs.length = l0.length ∧ OwnI wr (.slice aa l0.length ca) zs) ∧ Hid (OwnI wr (.slice ab l1.length cb) l1) ∧ Hid (Tape wr F p l0 l1) ∧ Hid (Below w.heap.size w wr)) (fun i _ => l0.length - (intOf i).toNat)
  case atStart => exact ⟨0, by omega, rfl, Lib.hid ⟨l0, rfl, HA6.out⟩, HC6, HT6, HW6⟩
  case round =>
    clear HA6 HC6 HT6 HW6
    obtain ⟨k, hk, rfl, HRA, HRB, HRT, HRW⟩ := hrel
    by_cases hkl : k < l0.length
    · have hdl : (k : Int) < (l0.length : Int) := by omega
      obtain ⟨zs, hzl, hown⟩ := HRA.out
      obtain ⟨g, o, z, rfl, hnc, hcell, hfroz, hset⟩ := hown.spot hzl hkl
      have HSET := Lib.hid hset
      have HG := Lib.hid (HVA.out g rfl)
      have HZL := Lib.hid hzl
      clear hown hset hzl HRA
      go_wp2
      go_roundw
      case rel => exact ⟨k + 1, by omega, by go_num, Lib.hid ⟨zs.set k _, by rw [List.length_set]; exact HZL.out, HSET.out _⟩, Lib.hid (HRB.out.keep (fun j hj => heap_set_far _ _ _ _ _ (by have := HVB.out j hj; have := HG.out; omega))), Lib.hid (HRT.out.chg (Chg.setCell (F := fun j => j = g) (Chg.refl _ _) (a := ⟨g, o + k, none⟩) rfl _) (fun j hj e => by have := HF.out j hj; have := HG.out; have := s5.out; omega)), Lib.hid (HRW.out.setCell (p := ⟨g, o + k, none⟩) (Nat.le_trans s1.out HG.out.1) _)⟩
      case measure => simp [intOf]; omega
    · obtain rfl : k = l0.length := by omega
      clear hkl HRA
      go_wp2
      go_loopw [64] (fun i wr => ∃ k : Nat, k ≤ l1.length ∧ i = .int .i64 k ∧ Hid (∃ zs : List Int, zs.length = l1.length ∧ OwnI wr (.slice ab l1.length cb) zs) ∧ Hid (Tape wr F p l0 l1) ∧ Hid (Below w.heap.size w wr)) (fun i _ => l1.length - (intOf i).toNat)
      case atStart => exact ⟨0, by omega, rfl, Lib.hid ⟨l1, rfl, HRB.out⟩, HRT, HRW⟩
      case round =>
        clear HRB HRT HRW
        obtain ⟨j, hj, rfl, HRB, HRT, HRW⟩ := hrel
        by_cases hjl : j < l1.length
        · have hdl : (j : Int) < (l1.length : Int) := by omega
          obtain ⟨zs, hzl, hown⟩ := HRB.out
          obtain ⟨g, o, z, rfl, hnc, hcell, hfroz, hset⟩ := hown.spot hzl hjl
          have HSET := Lib.hid hset
          have HG := Lib.hid (HVB.out g rfl)
          have HZL := Lib.hid hzl
          clear hown hset hzl HRB
          go_wp2
          go_roundw
          case rel => exact ⟨j + 1, by omega, by go_num, Lib.hid ⟨zs.set j _, by rw [List.length_set]; exact HZL.out, HSET.out _⟩, Lib.hid (HRT.out.chg (Chg.setCell (F := fun j => j = g) (Chg.refl _ _) (a := ⟨g, o + j, none⟩) rfl _) (fun i hi e => by have := HF.out i hi; have := HG.out; omega)), Lib.hid (HRW.out.setCell (p := ⟨g, o + j, none⟩) (Nat.le_trans s1.out (Nat.le_trans s4.out HG.out.1)) _)⟩
          case measure => simp [intOf]; omega
        · obtain rfl : j = l1.length := by omega
          clear hjl HRB
          go_wp2_with (go_at_call 14; refine (in_any F p l0 l1 _ HRT.out (by omega)).mono ?_; rintro e w7 ⟨ax, cx, rfl, ho, hbx, hb⟩; have HX := Lib.hid ho; have HBX := Lib.hid hbx; have HT7 := Lib.hid (HRT.out.below hb); have HW7 := Lib.hid (below_on HRW.out hb); have HFL := Lib.hid HRT.out.lt; clear ho hbx hb)
          go_loopw [78] (fun i wr => ∃ k : Nat, k ≤ l0.length ∧ i = .int .i64 k ∧ Hid (∃ zs : List Int, zs.length = l0.length ∧ OwnI wr (.slice ax l0.length cx) zs) ∧ Hid (Tape wr F p l0 l1) ∧ Hid (Below w.heap.size w wr)) (fun i _ => l0.length - (intOf i).toNat)
          case atStart => exact ⟨0, by omega, rfl, Lib.hid ⟨l0, rfl, HX.out⟩, HT7, HW7⟩
          case round =>
            have HS8 := Lib.hid HRW.out.size
            clear HX HT7 HW7 HRT HRW
            obtain ⟨m, hm, rfl, HRX, HRT, HRW⟩ := hrel
            by_cases hml : m < l0.length
            · have hdl : (m : Int) < (l0.length : Int) := by omega
              obtain ⟨zs, hzl, hown⟩ := HRX.out
              obtain ⟨g, o, z, rfl, hnc, hcell, hfroz, hset⟩ := hown.spot hzl hml
              have HSET := Lib.hid hset
              have HG := Lib.hid (HBX.out g rfl)
              have HZL := Lib.hid hzl
              clear hown hset hzl HRX
              go_wp2
              go_roundw
              case rel => exact ⟨m + 1, by omega, by go_num, Lib.hid ⟨zs.set m _, by rw [List.length_set]; exact HZL.out, HSET.out _⟩, Lib.hid (HRT.out.chg (Chg.setCell (F := fun j => j = g) (Chg.refl _ _) (a := ⟨g, o + m, none⟩) rfl _) (fun i hi e => by have := HFL.out i hi; have := HG.out; omega)), Lib.hid (HRW.out.setCell (p := ⟨g, o + m, none⟩) (Nat.le_trans HS8.out HG.out) _)⟩
              case measure => simp [intOf]; omega
            · obtain rfl : m = l0.length := by omega
              clear hml HRX
              go_wp2_with (go_at_call 15; refine (same_any F p l0 l1 _ _ _ _ _ HRT.out (HX0.out.below HRW.out) (HX1.out.below HRW.out) (by omega) (by omega)).mono ?_; rintro e w9 ⟨rfl, hb⟩; have HW9 := Lib.hid (below_on HRW.out hb); clear hb)
              go_ret
              exact ⟨rfl, HW9.out⟩

set_option maxRecDepth 100000 in
theorem lifted (os : Os) (started : os.Started) (H : Type) (enc : TypeId × Value → H) :
    ReturnsInHanded {} Try.checked os 3 .any (Rows.tapeNewSpec.pre6 enc Try.prog Try.f3 Rows.tapeNewRow.domain false) (Rows.tapeNewSpec.post enc Try.prog Try.f3 false true false false) := by
  refine returnsInHanded_of_change (C := Try.checked) own started (by kernel_rfl) Try.func3
    (ChangeSpec.witness6 (enc := enc) (C := Try.checked) false ⟨#[], #[.slice none 0 0, .slice none 0 0], []⟩ 8 (by kernel_rfl) (by kernel_rfl) (by kernel_rfl) (by kernel_rfl)) ?_
  intro W base args ds gs before hval0 hW hcnd _
  have hval : ∀ (j : Nat) t v, Try.f3.params[j]? = some t → args[j]? = some v → Value.okWide Try.prog W .any base t v := hval0
  have hW' := hW
  obtain ⟨p, q, hA0, hV, rfl, hfz, hnd⟩ := hW
  have hA : DataW.TrodAll enc Try.prog W 0 (fun _ => true) true Try.f3.params.toList args.toList ds p := hA0
  rw [Try.params3] at hA hval
  obtain ⟨v0, vs0, d0, ds0, p0, q0, hargs, rfl, rfl, h0, r0⟩ := trodAll_cons hA
  obtain ⟨v1, vs1, d1, ds1, p1, q1, rfl, rfl, rfl, h1, r1⟩ := trodAll_cons r0
  obtain ⟨rfl, rfl, rfl⟩ := trodAll_nil r1
  obtain rfl : args = #[v0, v1] := by cases args; simp_all
  obtain ⟨rfl, rfl⟩ := trodVars_none hV
  have k0 := h0
  have lt0 : ∀ x ∈ p0, x.block < W.heap.size := by obtain ⟨m, hm⟩ := k0; exact DataW.trod_lt m _ _ _ hm
  obtain ⟨a0, n0, cap0, l0, rfl, w0, x0, y0⟩ := open_intsS (hval 0 22 v0 rfl rfl) h0
  have k1 := h1
  have lt1 : ∀ x ∈ p1, x.block < W.heap.size := by obtain ⟨m, hm⟩ := k1; exact DataW.trod_lt m _ _ _ hm
  obtain ⟨a1, n1, cap1, l1, rfl, w1, x1, y1⟩ := open_intsS (hval 1 22 v1 rfl rfl) h1
  clear hA0 hval0
  refine (walk a0 n0 cap0 l0 a1 n1 cap1 l1 W w0 x0 y0 w1 x1 y1).mono fun e W' ⟨he, bel⟩ => ?_
  subst he
  exact ⟨_, rfl, _, _, _, [], _, [], hW', trodAll_mk1 (shut_bool Try.underlying4 _), (trodAll_cons_mk (Below.trod laidOut (by kernel_rfl) (of_decide_eq_true (by kernel_rfl)) k0 bel lt0) (trodAll_cons_mk (Below.trod laidOut (by kernel_rfl) (of_decide_eq_true (by kernel_rfl)) k1 bel lt1) trodAll_mk0)), rfl, bel.frame _, fun h => by cases h⟩

theorem over : Rows.tapeNewRow.holds Try.pinned (OpenSpec.ofChange Rows.tapeNewSpec) :=
  OpenClaim.holds_of_wide 3 Try.f3 rfl rfl rfl rfl rfl rfl rfl ⟨rfl, rfl, rfl, rfl, rfl⟩ rfl rfl rfl rfl rfl (by kernel_rfl) Try.func3 (by kernel_rfl)
    (of_decide_eq_true (by kernel_rfl)) (by unfold Func.isWrapper; first | (rw [if_pos (by decide +kernel)]; kernel_rfl) | (rw [if_neg (by decide +kernel)]; exact ⟨rfl, rfl⟩))
    (fun os started H enc _ => lifted os started H enc)

theorem proved : Rows.TapeNewSaid := over
#print axioms proved
end Go.Proofs.Ythbeillgpnffmaa.tapeNew
