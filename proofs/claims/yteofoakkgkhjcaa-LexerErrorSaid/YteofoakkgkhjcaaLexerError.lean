/- LexerError answers true for every string, and changes nothing that existed; no conditions. -/
import Derived.Test.YteofoakkgkhjcaaRows
import Derived.WalkKit
import Derived.ProofKit
import Derived.OpenShut
import Derived.ShutString
import Derived.ChangeOld
import Derived.Below
import Derived.Test.YteofoakkgkhjcaaAwake
import Derived.Test.YteofoakkgkhjcaaJoin
import Derived.Lib.Hide
import Derived.Deep.RegionHeld3
import Derived.WalkSmall
import Derived.Deep.QuietTactic
import Derived.BigQuiet
import Derived.WalkSpells
import Derived.WalkLawsBesides
import Derived.Outline
namespace Go.Proofs.Yteofoakkgkhjcaa.lexerError
open Go.ChangeShapes Go.WideShapes Go.ChangeAt Go.RowKit
open Go.ChangeMaps (open_string shut_string)
set_option linter.unusedSimpArgs false
set_option linter.unusedVariables false

theorem own : ownKnob Try.prog.godebug = none := by kernel_rfl
theorem laidOut : laidOutB Try.prog = true := by kernel_rfl
theorem below_on {w0 w w' : World} (h : Below w0.heap.size w0 w) (hb : Below w.heap.size w w') : Below w0.heap.size w0 w' := h.trans (hb.mono h.size)
theorem join_nil (w : World) : Calls Try.prog 16 #[.slice none 0 0] w fun e w' => e = .returned (.string ⟨#[]⟩) ∧ Below w.heap.size w w' := by
  have hstart : Lib.IsBuilder 50 5 w.heap.size w.heap.size [] (w.alloc (.cells #[.pointer none, .slice none 0 0] 50)) :=
    .inl ⟨Nat.le_refl _, _, heap_alloc_new w _, World.ownsRow_nil _ _ _ _, fun e => by cases e⟩
  have HS := Lib.hid hstart
  clear hstart
  go_enter Try.func16, Try.ntmps16
  go_wp2_with fail
  refine wp_loop_rounds 1 ?_
  rw [rounds_succ]
  go_wp2_with fail
  refine (Try.Builder_String_empty w.heap.size w.heap.size _ HS.out (by simp)).mono ?_
  rintro e w2 ⟨rfl, hb2⟩
  have HW2 : Below w.heap.size w w2 := ((Below.refl _ _).alloc (Nat.le_refl _) _).trans hb2
  go_wp2
  go_ret
  exact ⟨rfl, HW2⟩
theorem ext_head (s : ByteArray) (a : Nat) : s.extract 0 a = ⟨(s.data.toList.take a).toArray⟩ := by
  apply Go.WideShapes.bytes_inj
  rw [Lib.extract_data]; simp

set_option maxRecDepth 100000 in
set_option maxHeartbeats 1000000 in
theorem walk (a0 : ByteArray) (w : World) (w0 : a0.size ≤ maxLen) :
    Calls Try.prog 11 #[.string a0] w fun e w' => e = .returned (.bool true) ∧ Below w.heap.size w w' := by
  have HW : Below w.heap.size w w := Below.refl _ _
  by_cases hbig : 200 < a0.size
  · go_enter Try.func11, Try.ntmps11
    go_wp2_with (go_at_call 12; refine (awake_any _).mono ?_; rintro e w1 ⟨rfl, hb⟩; replace HW := below_on HW hb; clear hb)
    go_ret
    exact ⟨rfl, HW⟩
  have hs : a0.size ≤ 65536 := by omega
  obtain ⟨l, o, hl⟩ : ∃ l o, lexR a0.data.toList 0 = (l, o) := ⟨_, _, rfl⟩
  cases o with
  | none =>
    by_cases hne : l = []
    · subst hne
      have HE := Lib.hid hl
      clear hl
      go_enter Try.func11, Try.ntmps11
      go_wp2_with (first | (go_at_call 12; refine (awake_any _).mono ?_; rintro e w1 ⟨rfl, hb⟩; replace HW := below_on HW hb; clear hb) | (go_at_call 13; refine (lex_empty _ _ hs HE.out).mono ?_; rintro e w1 ⟨rfl, hb⟩; replace HW := below_on HW hb; clear hb))
      go_ret
      exact ⟨rfl, HW⟩
    · have HE := Lib.hid hl
      have HNE := Lib.hid hne
      clear hl hne
      go_enter Try.func11, Try.ntmps11
      go_wp2_with (first | (go_at_call 12; refine (awake_any _).mono ?_; rintro e w1 ⟨rfl, hb⟩; replace HW := below_on HW hb; clear hb) | (go_at_call 13; refine (lex_ok _ l _ hs HE.out HNE.out).mono ?_; rintro e w1 ⟨g, cap, rfl, hg, hlt, ht, hb⟩; replace HW := below_on HW hb; clear hb hg ht hlt))
      go_ret
      exact ⟨rfl, HW⟩
  | some a =>
    obtain ⟨k, hk1, hk2, hk3, hk4, hk5⟩ := lexL_error _ _ _ _ _ (Nat.le_refl _) hl
    obtain rfl : k = a := by omega
    have hka : k < a0.size := hk2
    have hi0 : (0 : Int) ≤ (k : Int) := by omega
    have hi1 : (k : Int) ≤ (a0.size : Int) := by omega
    have HB : Hid ((lexR a0.data.toList 0).2 = some k) := Lib.hid (by rw [hl])
    have hhead : lexR (a0.extract 0 k).data.toList 0 = (l, none) := by rw [ext_head]; exact hk5
    have hdne : a0.data.toList.drop k ≠ [] := fun e => by
      have := congrArg List.length e
      rw [List.length_drop] at this
      simp at this
      omega
    have htail : (lexR (a0.extract k a0.size).data.toList 0).2 = some 0 := by rw [ext_data, lexR_bad hdne 0 hk3]
    have hstr : (⟨(join l).toArray⟩ : ByteArray) = a0.extract 0 k := by rw [hk4, ext_head]
    have s1 : (a0.extract 0 k).size ≤ 65536 := by
      show (a0.extract 0 k).data.toList.length ≤ _
      rw [ext_head]
      show (a0.data.toList.take k).length ≤ _
      rw [List.length_take]
      have : a0.data.toList.length = a0.size := rfl
      omega
    have s2 : (a0.extract k a0.size).size ≤ 65536 := by
      show (a0.extract k a0.size).data.toList.length ≤ _
      rw [ext_data, List.length_drop]
      have : a0.data.toList.length = a0.size := rfl
      omega
    have hjl : (join l).length ≤ 65536 := by
      rw [hk4, List.length_take]; omega
    have hll : l.length ≤ 65536 := by
      have := lexR_len a0.data.toList 0
      rw [hl] at this
      have h2 : a0.data.toList.length = a0.size := rfl
      simp only at this
      omega
    have HH := Lib.hid hhead
    have HTL := Lib.hid htail
    have HSTR := Lib.hid hstr
    have HS1 := Lib.hid s1
    have HS2 := Lib.hid s2
    have HJL := Lib.hid hjl
    clear hl hk1 hk2 hk3 hk4 hk5 hhead htail hstr hdne s1 s2 hjl
    by_cases hne : l = []
    · subst hne
      have hz : a0.extract 0 k = ⟨#[]⟩ := HSTR.out.symm
      have HZ := Lib.hid hz
      clear hz
      go_enter Try.func11, Try.ntmps11
      go_wp2_with (go_at_call 12; refine (awake_any _).mono ?_; rintro e w1 ⟨rfl, hb⟩; replace HW := below_on HW hb; clear hb)
      refine (lex_bad _ _ _ hs HB.out).mono ?_
      rintro e w2 ⟨rfl, hb⟩
      replace HW := below_on HW hb
      clear hb
      go_wp2_with fail
      refine (lex_empty _ _ HS1.out HH.out).mono ?_
      rintro e w3 ⟨rfl, hb⟩
      replace HW := below_on HW hb
      clear hb
      go_wp2_with fail
      refine (lex_bad _ 0 _ HS2.out HTL.out).mono ?_
      rintro e w4 ⟨rfl, hb⟩
      replace HW := below_on HW hb
      clear hb
      have hz := HZ.out
      go_wp2_with fail
      go_region_held3 (fun w' => Below w.heap.size w w')
        (first | exact HW.drew | exact HX | assumption)
        (first | (go_at_call 16; refine (join_nil _).mono ?_; rintro e w5 ⟨rfl, hb⟩; have HX := below_on HW.drew hb))
      all_goals go_wp2
      all_goals go_ret
      all_goals exact ⟨by simp, HX⟩
    · have HNE := Lib.hid hne
      clear hne
      go_enter Try.func11, Try.ntmps11
      go_wp2_with (go_at_call 12; refine (awake_any _).mono ?_; rintro e w1 ⟨rfl, hb⟩; replace HW := below_on HW hb; clear hb)
      refine (lex_bad _ _ _ hs HB.out).mono ?_
      rintro e w2 ⟨rfl, hb⟩
      replace HW := below_on HW hb
      clear hb
      go_wp2_with fail
      refine (lex_ok _ l _ HS1.out HH.out HNE.out).mono ?_
      rintro e w3 ⟨g, cap, rfl, hg, hlt, ht, hb⟩
      replace HW := below_on HW hb
      have HT := Lib.hid ht
      clear hb ht hg
      go_wp2_with fail
      refine (lex_bad _ 0 _ HS2.out HTL.out).mono ?_
      rintro e w4 ⟨rfl, hb⟩
      replace HW := below_on HW hb
      have HT4 := Lib.hid (HT.out.below hlt hb)
      have hlt4 : g < w4.heap.size := Nat.lt_of_lt_of_le hlt hb.size
      clear hb HT hlt
      go_wp2_with fail
      go_region_held3 (fun w' => Below w.heap.size w w')
        (first | exact HW.drew | exact HX | assumption)
        (first | (go_at_call 16; refine (join_any g cap l w4.drew (show Toks w4.drew g l from HT4.out) (show g < w4.drew.heap.size from hlt4) HJL.out hll).mono ?_; rintro e w5 ⟨rfl, hb⟩; rw [HSTR.out]; have HX := below_on HW.drew hb))
      all_goals go_wp2
      all_goals go_ret
      all_goals exact ⟨by simp, HX⟩

set_option maxRecDepth 100000 in
theorem lifted (os : Os) (started : os.Started) (H : Type) (enc : TypeId × Value → H) :
    ReturnsInHanded {} Try.checked os 11 .any (Rows.lexerErrorSpec.pre6 enc Try.prog Try.f11 Rows.lexerErrorRow.domain false) (Rows.lexerErrorSpec.post enc Try.prog Try.f11 false true false false) := by
  refine returnsInHanded_of_change (C := Try.checked) own started (by kernel_rfl) Try.func11
    (ChangeSpec.witness6 (enc := enc) (C := Try.checked) false ⟨#[], #[.string ByteArray.empty], []⟩ 8 (by kernel_rfl) (by kernel_rfl) (by kernel_rfl) (by kernel_rfl)) ?_
  intro W base args ds gs before hval0 hW hcnd _
  have hval : ∀ (j : Nat) t v, Try.f11.params[j]? = some t → args[j]? = some v → Value.okWide Try.prog W .any base t v := hval0
  have hW' := hW
  obtain ⟨p, q, hA0, hV, rfl, hfz, hnd⟩ := hW
  have hA : DataW.TrodAll enc Try.prog W 0 (fun _ => true) true Try.f11.params.toList args.toList ds p := hA0
  rw [Try.params11] at hA hval
  obtain ⟨v0, vs0, d0, ds0, p0, q0, hargs, rfl, rfl, h0, r0⟩ := trodAll_cons hA
  obtain ⟨rfl, rfl, rfl⟩ := trodAll_nil r0
  obtain rfl : args = #[v0] := by cases args; simp_all
  obtain ⟨rfl, rfl⟩ := trodVars_none hV
  obtain ⟨a0, rfl, rfl, rfl, w0⟩ := open_string Try.underlying9 (hval 0 9 v0 rfl rfl) h0
  clear hA0 hval0
  refine (walk a0 W w0).mono fun e W' ⟨he, bel⟩ => ?_
  subst he
  exact ⟨_, rfl, _, _, _, [], _, [], hW', trodAll_mk1 (shut_bool Try.underlying4 _), (trodAll_cons_mk (shut_string Try.underlying9 w0) trodAll_mk0), rfl, bel.frame _, fun h => by cases h⟩

theorem over : Rows.lexerErrorRow.holds Try.pinned (OpenSpec.ofChange Rows.lexerErrorSpec) :=
  OpenClaim.holds_of_wide 11 Try.f11 rfl rfl rfl rfl rfl rfl rfl ⟨rfl, rfl, rfl, rfl, rfl⟩ rfl rfl rfl rfl rfl (by kernel_rfl) Try.func11 (by kernel_rfl)
    (of_decide_eq_true (by kernel_rfl)) (by unfold Func.isWrapper; first | (rw [if_pos (by decide +kernel)]; kernel_rfl) | (rw [if_neg (by decide +kernel)]; exact ⟨rfl, rfl⟩))
    (fun os started H enc _ => lifted os started H enc)

theorem proved : Rows.LexerErrorSaid := over
#print axioms proved
end Go.Proofs.Yteofoakkgkhjcaa.lexerError
