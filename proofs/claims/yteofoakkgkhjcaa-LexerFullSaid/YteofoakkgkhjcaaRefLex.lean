/- The contract of the reference's Lex. -/
import Derived.Test.YteofoakkgkhjcaaRows
import Derived.WalkKit
import Derived.ProofKit
import Derived.OpenShut
import Derived.Below
import Derived.Lib.Hide
import Derived.WalkSpells
import Derived.WalkLawsBesides
import Derived.Outline
import Derived.Test.YteofoakkgkhjcaaKindW
import Derived.Test.YteofoakkgkhjcaaAwake
import Derived.Deep.Cut
import Derived.Deep.RegionLaw
import Derived.Deep.AppendLies
import Derived.IntWalk
import Derived.WalkSmall
import Derived.Deep.QuietTactic
import Derived.BigQuiet
namespace Go.Proofs.Yteofoakkgkhjcaa
open Go.ChangeShapes Go.WideShapes Go.ChangeAt Go.RowKit
set_option linter.unusedSimpArgs false
set_option linter.unusedVariables false
theorem Try.info47 : (Try.prog.info? 47).map (fun i => (i.zero, i.size, i.bytes)) = some (some (.agg #[.int .u8 0, .string ⟨#[]⟩, .int .i64 0]), 3, 32) := by kernel_rfl
/-- what the reference's Lex hands back -/
def LexPostR (l : List UInt8) (w : World) (e : Ending) (w' : World) : Prop :=
  (∃ v, (lexR l 0).2 = none ∧ e = .returned (.tuple #[v, .int .i64 0, .int .i64 0]) ∧ w'.ownsRow w.heap.size 47 3 v (lexR l 0).1.length ((lexR l 0).1.flatMap cellsT) ∧ Below w.heap.size w w' ∧ ((lexR l 0).1 = [] → v = .slice none 0 0)) ∨
  (∃ at_ : Nat, (lexR l 0).2 = some at_ ∧ e = .returned (.tuple #[.slice none 0 0, .int .i64 (at_ : Int), .int .i64 3]) ∧ Below w.heap.size w w')
theorem own_on {w w' : World} {B e size n : Nat} {v : Value} {xs : List Value} (h : w.ownsRow B e size v n xs) (hb : Below w.heap.size w w') : w'.ownsRow B e size v n xs := by
  refine ⟨h.1, ?_⟩
  rcases h.2 with hn | ⟨g, cap, cur, rfl, hbg, hg, rest⟩
  · exact .inl hn
  · refine .inr ⟨g, cap, cur, rfl, hbg, ?_, rest⟩
    rw [hb.block g (Array.getElem?_eq_some_iff.1 hg).1]; exact hg
set_option maxRecDepth 100000 in
set_option maxHeartbeats 2000000 in
theorem refLex_any (s : ByteArray) (w : World) (hs : s.size ≤ 65536) : Calls Try.prog 14 #[.string s] w (LexPostR s.data.toList w) := by
  obtain ⟨i0, hi, hz0, hz1, hz2⟩ := info_parts Try.info47
  have hlen : s.data.toList.length = s.size := rfl
  have HLEN := Lib.hid hlen
  clear hlen
  go_enter Try.func14, Try.ntmps14
  go_wp2
  go_loopw [5, 6] (fun v i wr => ∃ (pos : Nat) (acc : List Tok), pos ≤ s.size ∧ i = .int .i64 pos ∧ wr.ownsRow w.heap.size 47 3 v acc.length (acc.flatMap cellsT) ∧ acc.length ≤ pos ∧ Below w.heap.size w wr ∧ Sofar s.data.toList acc pos ∧ (acc = [] → v = .slice none 0 0)) (fun _ i _ => s.size - (intOf i).toNat)
  case atStart => exact ⟨0, [], by omega, rfl, World.ownsRow_nil _ _ _ _, by simp, Below.refl _ _, Sofar.start _, fun _ => rfl⟩
  case round =>
    obtain ⟨pos, acc, hpos, rfl, hown, hacc, hb, HS, hnil⟩ := hrel
    have HNIL := Lib.hid hnil
    clear hnil
    have HACC := Lib.hid hacc
    have HOWN := Lib.hid hown
    have HB := Lib.hid hb
    clear hown hb
    by_cases hlt : pos < s.size
    · have hne : s.data.toList.drop pos ≠ [] := fun e => by
        have := congrArg List.length e
        rw [List.length_drop, HLEN.out] at this
        simp at this; omega
      have hNle := fstN_le _ hne
      rw [List.length_drop, HLEN.out] at hNle
      obtain ⟨n, hn⟩ : ∃ n, n = fstN (s.data.toList.drop pos) := ⟨_, rfl⟩
      rw [← hn] at hNle
      have HN := Lib.hid hn
      have HNL := Lib.hid hNle
      have hbest := best_first _ hne
      rw [List.length_drop, HLEN.out, ← hn] at hbest
      have HBEST := Lib.hid hbest
      have HKF := Lib.hid (kind_first _ hne)
      have HNE := Lib.hid hne
      clear hbest hn hNle hne
      have hd : decide (pos < s.size) = true := by simpa using hlt
      have hsub : IntKind.i64.wrap ((s.size : Int) - (pos : Int)) = ((s.size - pos : Nat) : Int) := by rw [IntWalk.i64_in _ (by omega)]; omega
      go_wp2
      go_loopw [7, 8] (fun b i wr2 => ∃ k : Nat, k ≤ s.size - pos ∧ i = .int .i64 ((k + 1 : Nat) : Int) ∧ b = .int .i64 (bestN (fun n => kindR ((s.data.toList.drop pos).take n) != 0) k : Nat) ∧ Hid (Below wr.heap.size wr wr2)) (fun _ i _ => s.size - pos + 1 - (intOf i).toNat)
      case atStart => exact ⟨0, by omega, rfl, rfl, Lib.hid (Below.refl _ _)⟩
      case round =>
        obtain ⟨k, hk, rfl, rfl, HB2⟩ := hrel
        by_cases hkl : k < s.size - pos
        · have hd3 : decide (((k + 1 : Nat) : Int) ≤ ((s.size - pos : Nat) : Int)) = true := by simp; omega
          have s1 : IntKind.i64.wrap ((pos : Int) + ((k + 1 : Nat) : Int)) = ((pos + (k + 1) : Nat) : Int) := by rw [IntWalk.i64_in _ (by omega)]; omega
          have s2 : pos ≤ pos + (k + 1) := by omega
          have s3 : pos + (k + 1) ≤ s.size := by omega
          have hdat : (s.extract pos (pos + (k + 1))).data.toList = (s.data.toList.drop pos).take (k + 1) := by rw [ext_take]
          have hsz : (s.extract pos (pos + (k + 1))).size ≤ maxLen := by
            have : (s.extract pos (pos + (k + 1))).data.toList.length ≤ maxLen := by rw [hdat, List.length_take, List.length_drop]; unfold maxLen; have := HLEN.out; omega
            exact this
          have HDAT := Lib.hid hdat
          have HSZ := Lib.hid hsz
          clear hdat hsz
          generalize hkk : kindR ((s.data.toList.drop pos).take (k + 1)) = kk
          have HKK := Lib.hid hkk
          have hbs : bestN (fun n => kindR ((s.data.toList.drop pos).take n) != 0) (k + 1) = if (kk != 0) = true then k + 1 else bestN (fun n => kindR ((s.data.toList.drop pos).take n) != 0) k := by
            show (if _ then _ else _) = _
            simp only [hkk]
          have HBS := Lib.hid hbs
          clear hkk hbs
          by_cases hk0 : kk = 0
          · subst hk0
            go_wp2_with (go_at_call 24; refine (kind_any _ _ HSZ.out).mono ?_; rintro e w2 ⟨rfl, hg⟩; rw [HDAT.out, HKK.out]; replace HB2 := Lib.hid (HB2.out.trans (hg.mono HB2.out.size)); clear hg)
            go_roundw
            case rel => exact ⟨k + 1, by omega, by go_num, by rw [HBS.out]; rfl, HB2⟩
            case measure => simp [intOf]; omega
          · have hkb : (kk == 0) = false := by simpa using hk0
            have hkb2 : (kk != 0) = true := by simpa using hk0
            have HBS2 := Lib.hid (HBS.out.trans (if_pos hkb2))
            go_wp2_with (go_at_call 24; refine (kind_any _ _ HSZ.out).mono ?_; rintro e w2 ⟨rfl, hg⟩; rw [HDAT.out, HKK.out]; replace HB2 := Lib.hid (HB2.out.trans (hg.mono HB2.out.size)); clear hg)
            go_roundw
            case rel => exact ⟨k + 1, by omega, by go_num, by rw [HBS2.out]; go_num, HB2⟩
            case measure => simp [intOf]; omega
        · have hd3 : decide (((k + 1 : Nat) : Int) ≤ ((s.size - pos : Nat) : Int)) = false := by simp; omega
          obtain rfl : k = s.size - pos := by omega
          rw [HBEST.out]
          have HO2 := Lib.hid (own_on HOWN.out HB2.out)
          have HW2 := Lib.hid (HB.out.trans (HB2.out.mono HB.out.size))
          clear HB2 HB HOWN hsub
          by_cases h0 : n = 0
          · have HP := Lib.hid (HS.bad HNE.out (by rw [← HN.out]; exact h0))
            subst h0
            go_wp2
            go_ret3
            exact .inr ⟨pos, HP.out, rfl, HW2.out⟩
          · have HST := Lib.hid (HS.step HNE.out (by rw [← HN.out]; exact h0))
            have h0i : ((n : Int) == 0) = false := by simp; omega
            have h0j : ¬ (n : Int) = 0 := by omega
            have hnl := HNL.out
            have s1 : IntKind.i64.wrap ((pos : Int) + (n : Int)) = (pos : Int) + (n : Int) := IntWalk.i64_in _ (by omega)
            have s2 : (0 : Int) ≤ (pos : Int) + (n : Int) := by omega
            have s3 : (pos : Int) + (n : Int) ≤ (s.size : Int) := by omega
            have s4 : (pos : Int) ≤ (pos : Int) + (n : Int) := by omega
            have s5 : ((pos : Int) + (n : Int)).toNat = pos + n := by omega
            have hdat : (s.extract pos (pos + n)).data.toList = (s.data.toList.drop pos).take n := by rw [ext_take]
            have hsz : (s.extract pos (pos + n)).size ≤ maxLen := by
              have : (s.extract pos (pos + n)).data.toList.length ≤ maxLen := by rw [hdat, List.length_take, List.length_drop]; unfold maxLen; have := HLEN.out; omega
              exact this
            have HDAT := Lib.hid hdat
            have HSZ := Lib.hid hsz
            have HTX := Lib.hid (ext_take s pos n)
            have HKK := Lib.hid ((HKF.out.2 (by rw [← HN.out]; exact h0)))
            rw [← HN.out] at HKK
            clear hdat hsz
            obtain ⟨tok, htok⟩ : ∃ tok : Tok, tok = ⟨fstK (s.data.toList.drop pos), (s.data.toList.drop pos).take n, pos⟩ := ⟨_, rfl⟩
            have HTOK := Lib.hid htok
            clear htok
            go_upto_region 14 with fail
            go_region_law (first
              | (go_simp; go_at_call 24; refine (kind_any _ _ HSZ.out).mono ?_; rintro e w2 ⟨rfl, hg⟩; rw [HDAT.out, HKK.out]; have HW3 := Lib.hid (HW2.out.drew.trans (hg.mono HW2.out.drew.size)); have HO3 := Lib.hid (own_on (show World.ownsRow (World.drew _) _ _ _ _ _ _ from HO2.out) hg); clear hg)
              | (go_loud (refine step_append_lies _ rfl (.tmp 36) (.tmp 52) 27 rfl w.heap.size 47 i0 (.agg #[.int .u8 0, .string ⟨#[]⟩, .int .i64 0]) 3 32 Try.underlying27 hi hz0 hz1 hz2 (by rfl) (by decide) _ _ _ rfl (HO3.out.alloc _) ⟨_, 0, none⟩ 1 1 [.int .u8 (fstK (s.data.toList.drop pos)), .string (s.extract pos (pos + n)), .int .i64 (pos : Int)] rfl rfl (World.news_of_block (heap_alloc_new _ _)) (by intro u hu; simp at hu; rcases hu with rfl | rfl | rfl <;> rfl) (by decide) (by have := HACC.out; unfold maxLen; omega) (by have := HACC.out; omega) (by have := HW3.out.size; simp; omega) _ rfl ?_; intro g cap w4 hown' hgrow hat hlt4; have HGR := Lib.hid (And.intro hown' hgrow); clear hown' hgrow hat hlt4)))
            all_goals
              have hb4 := (HW3.out.alloc HW3.out.size _).grown HGR.out.2 (by have := HW3.out.size; simp; omega) (fun j hj => by have := (HO3.out.lt j hj).1; omega)
              have e1 : (acc ++ [(⟨fstK (s.data.toList.drop pos), (s.data.toList.drop pos).take n, pos⟩ : Tok)]).length = acc.length + 1 := by simp
              have e2 : (acc ++ [(⟨fstK (s.data.toList.drop pos), (s.data.toList.drop pos).take n, pos⟩ : Tok)]).flatMap cellsT = acc.flatMap cellsT ++ [.int .u8 (fstK (s.data.toList.drop pos)), .string ⟨((s.data.toList.drop pos).take n).toArray⟩, .int .i64 (pos : Int)] := by rw [List.flatMap_append]; rfl
              have hown2 : w4.ownsRow w.heap.size 47 3 (.slice (some ⟨g, 0, none⟩) (acc.length + 1) cap) (acc ++ [(⟨fstK (s.data.toList.drop pos), (s.data.toList.drop pos).take n, pos⟩ : Tok)]).length ((acc ++ [(⟨fstK (s.data.toList.drop pos), (s.data.toList.drop pos).take n, pos⟩ : Tok)]).flatMap cellsT) := by
                rw [e1, e2, ← HTX.out]; exact HGR.out.1
              clear e1 e2
              have HO := Lib.hid hown2
              have HB5 := Lib.hid hb4
              clear hown2 hb4 HGR
              go_wp2
              go_roundw
              case rel => exact ⟨pos + n, (acc ++ [(⟨fstK (s.data.toList.drop pos), (s.data.toList.drop pos).take n, pos⟩ : Tok)]), by omega, by go_num, HO.out, by rw [List.length_append]; show acc.length + 1 ≤ pos + n; omega, HB5.out, by rw [← HN.out] at HST; exact HST.out, fun h => by simp at h⟩
              case measure => simp [intOf]; omega
    · have HD := Lib.hid (HS.done (by rw [HLEN.out]; omega))
      have hd : decide (pos < s.size) = false := by simpa using hlt
      go_wp2
      go_ret3
      exact .inl ⟨_, by rw [HD.out], rfl, by rw [HD.out]; exact HOWN.out, HB.out, by rw [HD.out]; exact HNIL.out⟩
end Go.Proofs.Yteofoakkgkhjcaa
