/- LexerAlone answers true for every string, and changes nothing that existed; no conditions. -/
import Derived.Test.YteofoakkgkhjcaaRows
import Derived.WalkKit
import Derived.ProofKit
import Derived.OpenShut
import Derived.ShutString
import Derived.ChangeOld
import Derived.Below
import Derived.Test.YteofoakkgkhjcaaAwake
import Derived.Test.YteofoakkgkhjcaaAlone
import Derived.Lib.Hide
import Derived.WalkSmall
import Derived.Deep.QuietTactic
import Derived.BigQuiet
import Derived.WalkSpells
import Derived.WalkLawsBesides
import Derived.Outline
namespace Go.Proofs.Yteofoakkgkhjcaa.lexerAlone
open Go.ChangeShapes Go.WideShapes Go.ChangeAt Go.RowKit
open Go.ChangeMaps (open_string shut_string)
set_option linter.unusedSimpArgs false
set_option linter.unusedVariables false

theorem own : ownKnob Try.prog.godebug = none := by kernel_rfl
theorem laidOut : laidOutB Try.prog = true := by kernel_rfl
theorem below_on {w0 w w' : World} (h : Below w0.heap.size w0 w) (hb : Below w.heap.size w w') : Below w0.heap.size w0 w' := h.trans (hb.mono h.size)

set_option maxHeartbeats 8000000 in
theorem walk (a0 : ByteArray) (w : World) (w0 : a0.size ≤ maxLen) :
    Calls Try.prog 5 #[.string a0] w fun e w' => e = .returned (.bool true) ∧ Below w.heap.size w w' := by
  have HW : Below w.heap.size w w := Below.refl _ _
  by_cases hbig : 200 < a0.size
  · go_enter Try.func5, Try.ntmps5
    go_wp2_with (go_at_call 12; refine (awake_any _).mono ?_; rintro e w1 ⟨rfl, hb⟩; replace HW := below_on HW hb; clear hb)
    go_ret
    exact ⟨rfl, HW⟩
  have hs : a0.size ≤ 65536 := by omega
  obtain ⟨l, o, hl⟩ : ∃ l o, lexR a0.data.toList 0 = (l, o) := ⟨_, _, rfl⟩
  cases o with
  | some a =>
    have HB : Hid ((lexR a0.data.toList 0).2 = some a) := Lib.hid (by rw [hl])
    clear hl
    go_enter Try.func5, Try.ntmps5
    go_wp2_with (first | (go_at_call 12; refine (awake_any _).mono ?_; rintro e w1 ⟨rfl, hb⟩; replace HW := below_on HW hb; clear hb) | (go_at_call 13; refine (lex_bad _ _ _ hs HB.out).mono ?_; rintro e w1 ⟨rfl, hb⟩; replace HW := below_on HW hb; clear hb))
    go_ret
    exact ⟨rfl, HW⟩
  | none =>
    by_cases hne : l = []
    · subst hne
      have HE := Lib.hid hl
      clear hl
      go_enter Try.func5, Try.ntmps5
      go_wp2_with (first | (go_at_call 12; refine (awake_any _).mono ?_; rintro e w1 ⟨rfl, hb⟩; replace HW := below_on HW hb; clear hb) | (go_at_call 13; refine (lex_empty _ _ hs HE.out).mono ?_; rintro e w1 ⟨rfl, hb⟩; replace HW := below_on HW hb; clear hb))
      refine wp_loop_rounds 1 ?_
      rw [rounds_succ]
      go_wp2
      go_ret
      exact ⟨rfl, HW⟩
    · have HE := Lib.hid hl
      have HNE := Lib.hid hne
      have HA : Hid (∀ x ∈ l, lexR x.t 0 = ([⟨x.k, x.t, 0⟩], none) ∧ x.t.length ≤ a0.data.toList.length ∧ x.t ≠ []) := Lib.hid (fun x hx => tok_alone (l := a0.data.toList) (pos := 0) (by rw [hl]; exact hx))
      have hll : l.length ≤ 200 := by
        have := lexR_len a0.data.toList 0
        rw [hl] at this
        have h2 : a0.data.toList.length = a0.size := rfl
        simp only at this
        omega
      clear hl hne
      go_enter Try.func5, Try.ntmps5
      go_wp2_with (first | (go_at_call 12; refine (awake_any _).mono ?_; rintro e w1 ⟨rfl, hb⟩; replace HW := below_on HW hb; clear hb) | (go_at_call 13; refine (lex_ok _ l _ hs HE.out HNE.out).mono ?_; rintro e w1 ⟨g, cap, rfl, hg, hlt, ht, hb⟩; replace HW := below_on HW hb; clear hb hg; have HT := Lib.hid ht; clear ht))
      go_loopw [6] (fun i wr => ∃ k : Nat, k ≤ l.length ∧ i = .int .i64 k ∧ g < wr.heap.size ∧ Hid (Toks wr g l) ∧ Below w.heap.size w wr) (fun i _ => l.length - (intOf i).toNat)
      case atStart => exact ⟨0, by omega, rfl, hlt, HT, HW⟩
      case round =>
        clear hlt HT HW
        obtain ⟨k, hk, rfl, hlt, HT, HW⟩ := hrel
        by_cases hkl : k < l.length
        · obtain ⟨x, hx⟩ : ∃ x, l[k]? = some x := ⟨_, List.getElem?_eq_getElem hkl⟩
          obtain ⟨c0, c1, c2⟩ := HT.out k x hx
          obtain ⟨h1, h2, h3⟩ := HA.out x (List.mem_of_getElem? hx)
          have HX := Lib.hid h1
          have hsz : (⟨x.t.toArray⟩ : ByteArray).size ≤ 65536 := by
            show x.t.toArray.size ≤ _
            rw [List.size_toArray]
            have : a0.data.toList.length = a0.size := rfl
            omega
          clear h1 h2 h3 hx
          go_wp2_with fail
          refine (lex_ok _ [⟨x.k, x.t, 0⟩] _ hsz HX.out (by simp)).mono ?_
          rintro e w2 ⟨g2, cap2, rfl, hg2, hlt2, ht2, hb2⟩
          have HT2 := Lib.hid (HT.out.below hlt hb2)
          have hlt3 : g < w2.heap.size := Nat.lt_of_lt_of_le hlt hb2.size
          have HW2 := below_on HW hb2
          obtain ⟨d0, d1, d2⟩ := ht2 0 _ rfl
          replace c0 := (hb2.cell (p := ⟨g, k * 3, none⟩) hlt).trans c0
          replace c1 := (hb2.cell (p := ⟨g, k * 3 + 1, none⟩) hlt).trans c1
          clear c2 HT HW ht2 hb2 hg2 hsz
          go_wp2_with fail
          go_quiet (fail)
          go_wp2
          go_roundw
          case rel => exact ⟨k + 1, by omega, by go_num, hlt3, HT2, below_drewN HW2 _⟩
          case measure => simp [intOf]; omega
        · obtain rfl : k = l.length := by omega
          go_wp2
          go_ret
          exact ⟨rfl, HW⟩

set_option maxRecDepth 100000 in
theorem lifted (os : Os) (started : os.Started) (H : Type) (enc : TypeId × Value → H) :
    ReturnsInHanded {} Try.checked os 5 .any (Rows.lexerAloneSpec.pre6 enc Try.prog Try.f5 Rows.lexerAloneRow.domain false) (Rows.lexerAloneSpec.post enc Try.prog Try.f5 false true false false) := by
  refine returnsInHanded_of_change (C := Try.checked) own started (by kernel_rfl) Try.func5
    (ChangeSpec.witness6 (enc := enc) (C := Try.checked) false ⟨#[], #[.string ByteArray.empty], []⟩ 8 (by kernel_rfl) (by kernel_rfl) (by kernel_rfl) (by kernel_rfl)) ?_
  intro W base args ds gs before hval0 hW hcnd _
  have hval : ∀ (j : Nat) t v, Try.f5.params[j]? = some t → args[j]? = some v → Value.okWide Try.prog W .any base t v := hval0
  have hW' := hW
  obtain ⟨p, q, hA0, hV, rfl, hfz, hnd⟩ := hW
  have hA : DataW.TrodAll enc Try.prog W 0 (fun _ => true) true Try.f5.params.toList args.toList ds p := hA0
  rw [Try.params5] at hA hval
  obtain ⟨v0, vs0, d0, ds0, p0, q0, hargs, rfl, rfl, h0, r0⟩ := trodAll_cons hA
  obtain ⟨rfl, rfl, rfl⟩ := trodAll_nil r0
  obtain rfl : args = #[v0] := by cases args; simp_all
  obtain ⟨rfl, rfl⟩ := trodVars_none hV
  obtain ⟨a0, rfl, rfl, rfl, w0⟩ := open_string Try.underlying9 (hval 0 9 v0 rfl rfl) h0
  clear hA0 hval0
  refine (walk a0 W w0).mono fun e W' ⟨he, bel⟩ => ?_
  subst he
  exact ⟨_, rfl, _, _, _, [], _, [], hW', trodAll_mk1 (shut_bool Try.underlying4 _), (trodAll_cons_mk (shut_string Try.underlying9 w0) trodAll_mk0), rfl, bel.frame _, fun h => by cases h⟩

theorem over : Rows.lexerAloneRow.holds Try.pinned (OpenSpec.ofChange Rows.lexerAloneSpec) :=
  OpenClaim.holds_of_wide 5 Try.f5 rfl rfl rfl rfl rfl rfl rfl ⟨rfl, rfl, rfl, rfl, rfl⟩ rfl rfl rfl rfl rfl (by kernel_rfl) Try.func5 (by kernel_rfl)
    (of_decide_eq_true (by kernel_rfl)) (by unfold Func.isWrapper; first | (rw [if_pos (by decide +kernel)]; kernel_rfl) | (rw [if_neg (by decide +kernel)]; exact ⟨rfl, rfl⟩))
    (fun os started H enc _ => lifted os started H enc)

theorem proved : Rows.LexerAloneSaid := over
#print axioms proved
end Go.Proofs.Yteofoakkgkhjcaa.lexerAlone
