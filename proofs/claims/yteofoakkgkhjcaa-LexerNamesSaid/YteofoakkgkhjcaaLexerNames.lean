/- LexerNames answers true for every string, and changes nothing that existed; no conditions. -/
import Derived.Test.YteofoakkgkhjcaaRows
import Derived.WalkKit
import Derived.ProofKit
import Derived.OpenShut
import Derived.ShutString
import Derived.ChangeOld
import Derived.Below
import Derived.Test.YteofoakkgkhjcaaAwake
import Derived.Test.YteofoakkgkhjcaaNameW
import Derived.Lib.Hide
import Derived.Deep.RegionHeld3
import Derived.WalkSmall
import Derived.Deep.QuietTactic
import Derived.BigQuiet
import Derived.WalkSpells
import Derived.WalkLawsBesides
import Derived.IntWalk
import Derived.Outline
namespace Go.Proofs.Yteofoakkgkhjcaa.lexerNames
open Go.ChangeShapes Go.WideShapes Go.ChangeAt Go.RowKit
open Go.ChangeMaps (open_string shut_string)
set_option linter.unusedSimpArgs false
set_option linter.unusedVariables false

theorem own : ownKnob Try.prog.godebug = none := by kernel_rfl
theorem laidOut : laidOutB Try.prog = true := by kernel_rfl

set_option maxRecDepth 100000 in
set_option maxHeartbeats 1000000 in
theorem walk (a0 : ByteArray) (w : World) (w0 : a0.size ≤ maxLen) :
    Calls Try.prog 9 #[.string a0] w fun e w' => e = .returned (.bool true) ∧ Below w.heap.size w w' := by
  have HW : Below w.heap.size w w := Below.refl _ _
  by_cases hbig : 60 < a0.size
  · have hd : decide ((60 : Int) < (a0.size : Int)) = true := by simp; omega
    go_enter Try.func9, Try.ntmps9
    go_wp2_with (go_at_call 12; refine (awake_any _).mono ?_; rintro e w1 ⟨rfl, hb⟩; replace HW := below_on HW hb; clear hb)
    go_ret
    exact ⟨rfl, HW⟩
  have hd : decide ((60 : Int) < (a0.size : Int)) = false := by simp; omega
  have hs : a0.size ≤ 65536 := by omega
  have hl1 : nameL a0.data.toList = true → kindR a0.data.toList = 1 ∧ decide (a0.data.toList ∈ keywords) = false := fun h => by
    unfold nameL at h
    simp at h
    exact ⟨h.1, by simpa using h.2.2⟩
  have hl2 : decide (a0.data.toList ∈ keywords) = true → kindR a0.data.toList = 1 := fun h => kw_kind _ (by simpa using h)
  obtain ⟨nm, hnm⟩ : ∃ nm, nameL a0.data.toList = nm := ⟨_, rfl⟩
  obtain ⟨kw, hkw⟩ : ∃ kw, decide (a0.data.toList ∈ keywords) = kw := ⟨_, rfl⟩
  have HNM := Lib.hid hnm
  have HKW := Lib.hid hkw
  cases nm
  · cases kw
    · clear hl1 hl2 hnm hkw hbig
      go_enter Try.func9, Try.ntmps9
      go_wp2_with (first | (go_at_call 12; refine (awake_any _).mono ?_; rintro e w1 ⟨rfl, hb⟩; replace HW := below_on HW hb; clear hb) | (go_at_call 18; refine (name_any _ _ w0).mono ?_; rintro e w1 ⟨rfl, hb⟩; rw [HNM.out]; replace HW := below_on HW hb; clear hb) | (go_at_call 19; refine (nameR_any _ _ w0).mono ?_; rintro e w1 ⟨rfl, hb⟩; rw [HNM.out]; replace HW := below_on HW hb; clear hb) | (go_at_call 20; refine (keyword_any _ _ w0).mono ?_; rintro e w1 ⟨rfl, hb⟩; rw [HKW.out]; replace HW := below_on HW hb; clear hb) | (go_at_call 22; refine (keywords_any _).mono ?_; rintro e w2 ⟨rfl, rfl⟩; replace HW := HW.alloc HW.size (.cells (keywords.map fun t => Value.string ⟨t.toArray⟩).toArray 9)) | (go_at_call 21; refine (in_any _ _ keywords _ _ (lit_at keywords _ 9) (by decide)).mono ?_; rintro e w3 ⟨rfl, rfl⟩; rw [HKW.out]))
      go_ret
      exact ⟨rfl, HW⟩
    · have HL := Lib.hid (lex_one (hl2 hkw))
      clear hl1 hl2 hnm hkw hbig
      go_enter Try.func9, Try.ntmps9
      go_wp2_with (first | (go_at_call 12; refine (awake_any _).mono ?_; rintro e w1 ⟨rfl, hb⟩; replace HW := below_on HW hb; clear hb) | (go_at_call 18; refine (name_any _ _ w0).mono ?_; rintro e w1 ⟨rfl, hb⟩; rw [HNM.out]; replace HW := below_on HW hb; clear hb) | (go_at_call 19; refine (nameR_any _ _ w0).mono ?_; rintro e w1 ⟨rfl, hb⟩; rw [HNM.out]; replace HW := below_on HW hb; clear hb) | (go_at_call 20; refine (keyword_any _ _ w0).mono ?_; rintro e w1 ⟨rfl, hb⟩; rw [HKW.out]; replace HW := below_on HW hb; clear hb) | (go_at_call 22; refine (keywords_any _).mono ?_; rintro e w2 ⟨rfl, rfl⟩; replace HW := HW.alloc HW.size (.cells (keywords.map fun t => Value.string ⟨t.toArray⟩).toArray 9)) | (go_at_call 21; refine (in_any _ _ keywords _ _ (lit_at keywords _ 9) (by decide)).mono ?_; rintro e w3 ⟨rfl, rfl⟩; rw [HKW.out]) | (go_at_call 13; refine (lex_ok _ [⟨1, a0.data.toList, 0⟩] _ hs HL.out (by simp)).mono ?_; rintro e w1 ⟨g, cap, rfl, hg, hlt, ht, hb⟩; replace HW := below_on HW hb; clear hb hg; have c0 : w1.cell? ⟨g, 0, none⟩ = some (.int .u8 1) := (ht 0 _ rfl).1; clear ht))
      go_ret
      exact ⟨rfl, HW⟩
  · obtain ⟨q1, q2⟩ := hl1 hnm
    have HL := Lib.hid (lex_one q1)
    rw [hkw] at q2
    subst q2
    clear hl1 hl2 hnm hkw hbig
    go_enter Try.func9, Try.ntmps9
    go_wp2_with (first | (go_at_call 12; refine (awake_any _).mono ?_; rintro e w1 ⟨rfl, hb⟩; replace HW := below_on HW hb; clear hb) | (go_at_call 18; refine (name_any _ _ w0).mono ?_; rintro e w1 ⟨rfl, hb⟩; rw [HNM.out]; replace HW := below_on HW hb; clear hb) | (go_at_call 19; refine (nameR_any _ _ w0).mono ?_; rintro e w1 ⟨rfl, hb⟩; rw [HNM.out]; replace HW := below_on HW hb; clear hb) | (go_at_call 20; refine (keyword_any _ _ w0).mono ?_; rintro e w1 ⟨rfl, hb⟩; rw [HKW.out]; replace HW := below_on HW hb; clear hb) | (go_at_call 22; refine (keywords_any _).mono ?_; rintro e w2 ⟨rfl, rfl⟩; replace HW := HW.alloc HW.size (.cells (keywords.map fun t => Value.string ⟨t.toArray⟩).toArray 9)) | (go_at_call 21; refine (in_any _ _ keywords _ _ (lit_at keywords _ 9) (by decide)).mono ?_; rintro e w3 ⟨rfl, rfl⟩; rw [HKW.out]) | (go_at_call 13; refine (lex_ok _ [⟨1, a0.data.toList, 0⟩] _ hs HL.out (by simp)).mono ?_; rintro e w1 ⟨g, cap, rfl, hg, hlt, ht, hb⟩; replace HW := below_on HW hb; clear hb hg; have c0 : w1.cell? ⟨g, 0, none⟩ = some (.int .u8 1) := (ht 0 _ rfl).1; clear ht))
    go_ret
    exact ⟨rfl, HW⟩

set_option maxRecDepth 100000 in
theorem lifted (os : Os) (started : os.Started) (H : Type) (enc : TypeId × Value → H) :
    ReturnsInHanded {} Try.checked os 9 .any (Rows.lexerNamesSpec.pre6 enc Try.prog Try.f9 Rows.lexerNamesRow.domain false) (Rows.lexerNamesSpec.post enc Try.prog Try.f9 false true false false) := by
  refine returnsInHanded_of_change (C := Try.checked) own started (by kernel_rfl) Try.func9
    (ChangeSpec.witness6 (enc := enc) (C := Try.checked) false ⟨#[], #[.string ByteArray.empty], []⟩ 8 (by kernel_rfl) (by kernel_rfl) (by kernel_rfl) (by kernel_rfl)) ?_
  intro W base args ds gs before hval0 hW hcnd _
  have hval : ∀ (j : Nat) t v, Try.f9.params[j]? = some t → args[j]? = some v → Value.okWide Try.prog W .any base t v := hval0
  have hW' := hW
  obtain ⟨p, q, hA0, hV, rfl, hfz, hnd⟩ := hW
  have hA : DataW.TrodAll enc Try.prog W 0 (fun _ => true) true Try.f9.params.toList args.toList ds p := hA0
  rw [Try.params9] at hA hval
  obtain ⟨v0, vs0, d0, ds0, p0, q0, hargs, rfl, rfl, h0, r0⟩ := trodAll_cons hA
  obtain ⟨rfl, rfl, rfl⟩ := trodAll_nil r0
  obtain rfl : args = #[v0] := by cases args; simp_all
  obtain ⟨rfl, rfl⟩ := trodVars_none hV
  obtain ⟨a0, rfl, rfl, rfl, w0⟩ := open_string Try.underlying9 (hval 0 9 v0 rfl rfl) h0
  clear hA0 hval0
  refine (walk a0 W w0).mono fun e W' ⟨he, bel⟩ => ?_
  subst he
  exact ⟨_, rfl, _, _, _, [], _, [], hW', trodAll_mk1 (shut_bool Try.underlying4 _), (trodAll_cons_mk (shut_string Try.underlying9 w0) trodAll_mk0), rfl, bel.frame _, fun h => by cases h⟩

theorem over : Rows.lexerNamesRow.holds Try.pinned (OpenSpec.ofChange Rows.lexerNamesSpec) :=
  OpenClaim.holds_of_wide 9 Try.f9 rfl rfl rfl rfl rfl rfl rfl ⟨rfl, rfl, rfl, rfl, rfl⟩ rfl rfl rfl rfl rfl (by kernel_rfl) Try.func9 (by kernel_rfl)
    (of_decide_eq_true (by kernel_rfl)) (by unfold Func.isWrapper; first | (rw [if_pos (by decide +kernel)]; kernel_rfl) | (rw [if_neg (by decide +kernel)]; exact ⟨rfl, rfl⟩))
    (fun os started H enc _ => lifted os started H enc)

theorem proved : Rows.LexerNamesSaid := over
#print axioms proved
end Go.Proofs.Yteofoakkgkhjcaa.lexerNames
