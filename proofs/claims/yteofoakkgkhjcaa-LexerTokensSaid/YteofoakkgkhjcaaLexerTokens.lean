/- LexerTokens answers true for every string, and changes nothing that existed; no conditions. -/
import Derived.Test.YteofoakkgkhjcaaRows
import Derived.WalkKit
import Derived.ProofKit
import Derived.OpenShut
import Derived.ShutString
import Derived.ChangeOld
import Derived.Below
import Derived.Test.YteofoakkgkhjcaaSame
import Derived.Lib.Hide
import Derived.WalkSmall
import Derived.WalkSpells
import Derived.WalkLawsBesides
import Derived.IntWalk
import Derived.Outline
namespace Go.Proofs.Yteofoakkgkhjcaa.lexerTokens
open Go.ChangeShapes Go.WideShapes Go.ChangeAt Go.RowKit
open Go.ChangeMaps (open_string shut_string)
set_option linter.unusedSimpArgs false
set_option linter.unusedVariables false

theorem own : ownKnob Try.prog.godebug = none := by kernel_rfl
theorem laidOut : laidOutB Try.prog = true := by kernel_rfl

set_option maxRecDepth 100000 in
set_option maxHeartbeats 1000000 in
theorem walk (a0 : ByteArray) (w : World) (w0 : a0.size ≤ maxLen) :
    Calls Try.prog 3 #[.string a0] w fun e w' => e = .returned (.bool true) ∧ Below w.heap.size w w' := by
  have HW : Below w.heap.size w w := Below.refl _ _
  by_cases hbig : 120 < a0.size
  · have hd : decide ((120 : Int) < (a0.size : Int)) = true := by simp; omega
    go_enter Try.func3, Try.ntmps3
    go_wp2_with (go_at_call 12; refine (awake_any _).mono ?_; rintro e w1 ⟨rfl, hb⟩; replace HW := below_on HW hb; clear hb)
    go_ret
    exact ⟨rfl, HW⟩
  have hd : decide ((120 : Int) < (a0.size : Int)) = false := by simp; omega
  have hs : a0.size ≤ 65536 := by omega
  obtain ⟨l, o, hl⟩ : ∃ l o, lexR a0.data.toList 0 = (l, o) := ⟨_, _, rfl⟩
  cases o with
  | some a =>
    have HB : Hid ((lexR a0.data.toList 0).2 = some a) := Lib.hid (by rw [hl])
    clear hl
    go_enter Try.func3, Try.ntmps3
    go_wp2_with (first | (go_at_call 12; refine (awake_any _).mono ?_; rintro e w1 ⟨rfl, hb⟩; replace HW := below_on HW hb; clear hb) | (go_at_call 13; refine (lex_bad _ _ _ hs HB.out).mono ?_; rintro e w1 ⟨rfl, hb⟩; replace HW := below_on HW hb; clear hb) | (go_at_call 14; refine (refLex_bad _ _ _ hs HB.out).mono ?_; rintro e w1 ⟨rfl, hb⟩; replace HW := below_on HW hb; clear hb) | (go_at_call 15; refine (same_nil _).mono ?_; rintro e w1 ⟨rfl, hb⟩; replace HW := below_on HW hb; clear hb))
    go_ret
    exact ⟨by simp, HW⟩
  | none =>
    by_cases hne : l = []
    · subst hne
      have HE := Lib.hid hl
      clear hl
      go_enter Try.func3, Try.ntmps3
      go_wp2_with (first | (go_at_call 12; refine (awake_any _).mono ?_; rintro e w1 ⟨rfl, hb⟩; replace HW := below_on HW hb; clear hb) | (go_at_call 13; refine (lex_empty _ _ hs HE.out).mono ?_; rintro e w1 ⟨rfl, hb⟩; replace HW := below_on HW hb; clear hb) | (go_at_call 14; refine (refLex_empty _ _ hs HE.out).mono ?_; rintro e w1 ⟨rfl, hb⟩; replace HW := below_on HW hb; clear hb) | (go_at_call 15; refine (same_nil _).mono ?_; rintro e w1 ⟨rfl, hb⟩; replace HW := below_on HW hb; clear hb))
      go_ret
      exact ⟨by simp, HW⟩
    · have HE := Lib.hid hl
      have HNE := Lib.hid hne
      have hll : l.length ≤ 65536 := by
        have := lexR_len a0.data.toList 0
        rw [hl] at this
        have h2 : a0.data.toList.length = a0.size := rfl
        simp only at this
        omega
      clear hl hne
      go_enter Try.func3, Try.ntmps3
      go_wp2_with (first | (go_at_call 12; refine (awake_any _).mono ?_; rintro e w1 ⟨rfl, hb⟩; replace HW := below_on HW hb; clear hb) | (go_at_call 13; refine (lex_ok _ l _ hs HE.out HNE.out).mono ?_; rintro e w1 ⟨g, cap, rfl, hg, hlt, ht, hb⟩; replace HW := below_on HW hb; clear hb hg; have HT := Lib.hid ht; clear ht) | (go_at_call 14; refine (refLex_ok _ l _ hs HE.out HNE.out).mono ?_; rintro e w2 ⟨g2, cap2, rfl, hg, hlt2, ht2, hb⟩; replace HW := below_on HW hb; replace HT := Lib.hid (HT.out.below hlt hb); clear hb hg; have HT2 := Lib.hid ht2; clear ht2) | (go_at_call 15; refine (same_any _ _ _ _ l _ HT.out HT2.out hll).mono ?_; rintro e w3 ⟨rfl, hb⟩; replace HW := below_on HW hb; clear hb))
      go_ret
      exact ⟨by simp, HW⟩

set_option maxRecDepth 100000 in
theorem lifted (os : Os) (started : os.Started) (H : Type) (enc : TypeId × Value → H) :
    ReturnsInHanded {} Try.checked os 3 .any (Rows.lexerTokensSpec.pre6 enc Try.prog Try.f3 Rows.lexerTokensRow.domain false) (Rows.lexerTokensSpec.post enc Try.prog Try.f3 false true false false) := by
  refine returnsInHanded_of_change (C := Try.checked) own started (by kernel_rfl) Try.func3
    (ChangeSpec.witness6 (enc := enc) (C := Try.checked) false ⟨#[], #[.string ByteArray.empty], []⟩ 8 (by kernel_rfl) (by kernel_rfl) (by kernel_rfl) (by kernel_rfl)) ?_
  intro W base args ds gs before hval0 hW hcnd _
  have hval : ∀ (j : Nat) t v, Try.f3.params[j]? = some t → args[j]? = some v → Value.okWide Try.prog W .any base t v := hval0
  have hW' := hW
  obtain ⟨p, q, hA0, hV, rfl, hfz, hnd⟩ := hW
  have hA : DataW.TrodAll enc Try.prog W 0 (fun _ => true) true Try.f3.params.toList args.toList ds p := hA0
  rw [Try.params3] at hA hval
  obtain ⟨v0, vs0, d0, ds0, p0, q0, hargs, rfl, rfl, h0, r0⟩ := trodAll_cons hA
  obtain ⟨rfl, rfl, rfl⟩ := trodAll_nil r0
  obtain rfl : args = #[v0] := by cases args; simp_all
  obtain ⟨rfl, rfl⟩ := trodVars_none hV
  obtain ⟨a0, rfl, rfl, rfl, w0⟩ := open_string Try.underlying9 (hval 0 9 v0 rfl rfl) h0
  clear hA0 hval0
  refine (walk a0 W w0).mono fun e W' ⟨he, bel⟩ => ?_
  subst he
  exact ⟨_, rfl, _, _, _, [], _, [], hW', trodAll_mk1 (shut_bool Try.underlying4 _), (trodAll_cons_mk (shut_string Try.underlying9 w0) trodAll_mk0), rfl, bel.frame _, fun h => by cases h⟩

theorem over : Rows.lexerTokensRow.holds Try.pinned (OpenSpec.ofChange Rows.lexerTokensSpec) :=
  OpenClaim.holds_of_wide 3 Try.f3 rfl rfl rfl rfl rfl rfl rfl ⟨rfl, rfl, rfl, rfl, rfl⟩ rfl rfl rfl rfl rfl (by kernel_rfl) Try.func3 (by kernel_rfl)
    (of_decide_eq_true (by kernel_rfl)) (by unfold Func.isWrapper; first | (rw [if_pos (by decide +kernel)]; kernel_rfl) | (rw [if_neg (by decide +kernel)]; exact ⟨rfl, rfl⟩))
    (fun os started H enc _ => lifted os started H enc)

theorem proved : Rows.LexerTokensSaid := over
#print axioms proved
end Go.Proofs.Yteofoakkgkhjcaa.lexerTokens
