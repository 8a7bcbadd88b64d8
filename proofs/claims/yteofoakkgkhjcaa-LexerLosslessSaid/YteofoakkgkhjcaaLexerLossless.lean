/- LexerLossless answers true for every string, and changes nothing that existed; no conditions. -/
import Derived.Test.YteofoakkgkhjcaaRows
import Derived.WalkKit
import Derived.ProofKit
import Derived.OpenShut
import Derived.ShutString
import Derived.ChangeOld
import Derived.Below
import Derived.Test.YteofoakkgkhjcaaAwake
import Derived.Test.YteofoakkgkhjcaaJoin
import Derived.Test.YteofoakkgkhjcaaPos
import Derived.Lib.Hide
import Derived.Deep.RegionHeld3
import Derived.WalkSmall
import Derived.Deep.QuietTactic
import Derived.BigQuiet
import Derived.WalkSpells
import Derived.WalkLawsBesides
import Derived.IntWalk
import Derived.Outline
namespace Go.Proofs.Yteofoakkgkhjcaa.lexerLossless
open Go.ChangeShapes Go.WideShapes Go.ChangeAt Go.RowKit
open Go.ChangeMaps (open_string shut_string)
set_option linter.unusedSimpArgs false
set_option linter.unusedVariables false

theorem own : ownKnob Try.prog.godebug = none := by kernel_rfl
theorem laidOut : laidOutB Try.prog = true := by kernel_rfl
theorem below_on {w0 w w' : World} (h : Below w0.heap.size w0 w) (hb : Below w.heap.size w w') : Below w0.heap.size w0 w' := h.trans (hb.mono h.size)
theorem join_nil (w : World) : Calls Try.prog 16 #[.slice none 0 0] w fun e w' => e = .returned (.string ⟨#[]⟩) ∧ Below w.heap.size w w' := by
  have hstart : Lib.IsBuilder 50 5 w.heap.size w.heap.size [] (w.alloc (.cells #[.pointer none, .slice none 0 0] 50)) :=
    .inl ⟨Nat.le_refl _, _, heap_alloc_new w _, World.ownsRow_nil _ _ _ _, fun e => by cases e⟩
  have HS := Lib.hid hstart
  clear hstart
  go_enter Try.func16, Try.ntmps16
  go_wp2_with fail
  refine wp_loop_rounds 1 ?_
  rw [rounds_succ]
  go_wp2_with fail
  refine (Try.Builder_String_empty w.heap.size w.heap.size _ HS.out (by simp)).mono ?_
  rintro e w2 ⟨rfl, hb2⟩
  have HW2 : Below w.heap.size w w2 := ((Below.refl _ _).alloc (Nat.le_refl _) _).trans hb2
  go_wp2
  go_ret
  exact ⟨rfl, HW2⟩
theorem ext_head (s : ByteArray) (a : Nat) : s.extract 0 a = ⟨(s.data.toList.take a).toArray⟩ := by
  apply Go.WideShapes.bytes_inj
  rw [Lib.extract_data]; simp

set_option maxRecDepth 100000 in
set_option maxHeartbeats 1000000 in
theorem walk (a0 : ByteArray) (w : World) (w0 : a0.size ≤ maxLen) :
    Calls Try.prog 4 #[.string a0] w fun e w' => e = .returned (.bool true) ∧ Below w.heap.size w w' := by
  have HW : Below w.heap.size w w := Below.refl _ _
  by_cases hbig : 500 < a0.size
  · go_enter Try.func4, Try.ntmps4
    go_wp2_with (go_at_call 12; refine (awake_any _).mono ?_; rintro e w1 ⟨rfl, hb⟩; replace HW := below_on HW hb; clear hb)
    go_ret
    exact ⟨rfl, HW⟩
  have hs : a0.size ≤ 65536 := by omega
  obtain ⟨l, o, hl⟩ : ∃ l o, lexR a0.data.toList 0 = (l, o) := ⟨_, _, rfl⟩
  cases o with
  | some a =>
    have HB : Hid ((lexR a0.data.toList 0).2 = some a) := Lib.hid (by rw [hl])
    clear hl
    go_enter Try.func4, Try.ntmps4
    go_wp2_with (first | (go_at_call 12; refine (awake_any _).mono ?_; rintro e w1 ⟨rfl, hb⟩; replace HW := below_on HW hb; clear hb) | (go_at_call 13; refine (lex_bad _ _ _ hs HB.out).mono ?_; rintro e w1 ⟨rfl, hb⟩; replace HW := below_on HW hb; clear hb))
    go_ret
    exact ⟨rfl, HW⟩
  | none =>
    have hjoin := lossless _ _ _ _ (Nat.le_refl _) hl
    by_cases hne : l = []
    · subst hne
      obtain rfl : a0 = ⟨#[]⟩ := Go.WideShapes.bytes_inj (by rw [← hjoin]; rfl)
      have HE := Lib.hid hl
      clear hl hjoin
      go_enter Try.func4, Try.ntmps4
      go_wp2_with (first | (go_at_call 12; refine (awake_any _).mono ?_; rintro e w1 ⟨rfl, hb⟩; replace HW := below_on HW hb; clear hb) | (go_at_call 13; refine (lex_empty _ _ hs HE.out).mono ?_; rintro e w1 ⟨rfl, hb⟩; replace HW := below_on HW hb; clear hb))
      refine wp_loop_rounds 1 ?_
      rw [rounds_succ]
      go_wp2_with (go_at_call 16; refine (join_nil _).mono ?_; rintro e w5 ⟨rfl, hb⟩; replace HW := below_on HW hb; clear hb)
      go_ret
      exact ⟨by simp, HW⟩
    · have hstr : (⟨(join l).toArray⟩ : ByteArray) = a0 := by rw [hjoin]
      have hjl : (join l).length ≤ 65536 := by rw [hjoin]; exact hs
      have hll : l.length ≤ 500 := by
        have := lexR_len a0.data.toList 0
        rw [hl] at this
        have h2 : a0.data.toList.length = a0.size := rfl
        simp only at this
        omega
      have HP : Hid (∀ (i : Nat) (x : Tok), l[i]? = some x → x.p = (join (l.take i)).length ∧ x.t ≠ [] ∧ join (l.take i) ++ x.t <+: a0.data.toList) := Lib.hid (fun i x hx => by
        have := pos_at a0.data.toList.length a0.data.toList 0 i x (by show (lexR a0.data.toList 0).1[i]? = _; rw [hl]; exact hx)
        have e : (lexL a0.data.toList.length a0.data.toList 0).1 = l := by show (lexR a0.data.toList 0).1 = l; rw [hl]
        rw [e, Nat.zero_add] at this
        exact this)
      have HE := Lib.hid hl
      have HNE := Lib.hid hne
      have HSTR := Lib.hid hstr
      have HJL := Lib.hid hjl
      have HSZ : Hid ((join l).length = a0.size) := Lib.hid (by rw [hjoin]; rfl)
      clear hl hne hjoin hstr hjl
      go_enter Try.func4, Try.ntmps4
      go_wp2_with (first | (go_at_call 12; refine (awake_any _).mono ?_; rintro e w1 ⟨rfl, hb⟩; replace HW := below_on HW hb; clear hb) | (go_at_call 13; refine (lex_ok _ l _ hs HE.out HNE.out).mono ?_; rintro e w1 ⟨g, cap, rfl, hg, hlt, ht, hb⟩; replace HW := below_on HW hb; clear hb hg; have HT := Lib.hid ht; clear ht))
      go_loopw [6, 7] (fun a i wr => ∃ k : Nat, k ≤ l.length ∧ i = .int .i64 k ∧ (∃ m : Nat, a = .int .i64 m ∧ Hid (m = (join (l.take k)).length) ∧ m ≤ a0.size) ∧ ∃ nd, wr = w1.drewN nd) (fun _ i _ => l.length - (intOf i).toNat)
      case atStart => exact ⟨0, by omega, rfl, ⟨0, rfl, Lib.hid rfl, by omega⟩, 0, rfl⟩
      case round =>
        obtain ⟨k, hk, rfl, ⟨m, rfl, HM, hm⟩, nd, rfl⟩ := hrel
        by_cases hkl : k < l.length
        · obtain ⟨x, hx⟩ : ∃ x, l[k]? = some x := ⟨_, List.getElem?_eq_getElem hkl⟩
          obtain ⟨c0, c1, c2⟩ := HT.out k x hx
          obtain ⟨p1, p2, p3⟩ := HP.out k x hx
          have hjk := join_take l k x hx
          rw [p1, ← HM.out] at c2
          have hlen : m + x.t.length ≤ a0.size := by
            have := p3.length_le
            rw [List.length_append, ← HM.out] at this
            exact this
          have hext : a0.extract m (m + x.t.length) = ⟨x.t.toArray⟩ := by
            rw [ext_take]
            obtain ⟨r, hr⟩ := p3
            rw [← hr, HM.out, List.append_assoc, List.drop_left, List.take_left]
          have hts : (⟨x.t.toArray⟩ : ByteArray).size = x.t.length := rfl
          rw [← hts] at hlen hext
          have htn : ¬ (⟨x.t.toArray⟩ : ByteArray).toList = [] := by rw [Lib.toList_data]; simpa using p2
          have HM2 : Hid (m + (⟨x.t.toArray⟩ : ByteArray).size = (join (l.take (k + 1))).length) := Lib.hid (by rw [hjk, List.length_append, ← HM.out]; rfl)
          clear hts p1 p2 p3 hjk hx
          generalize (⟨x.t.toArray⟩ : ByteArray) = T at *
          have s1 : IntKind.i64.wrap ((m : Int) + (T.size : Int)) = (m : Int) + (T.size : Int) := IntWalk.i64_in _ (by omega)
          have s3 : (0 : Int) ≤ (m : Int) + (T.size : Int) := by omega
          have s4 : ((m : Int) + (T.size : Int)).toNat = m + T.size := by omega
          have s5 : (m : Int) + (T.size : Int) ≤ (a0.size : Int) := by omega
          have s6 : (k : Int) < (l.length : Int) := by omega
          have s7 : (m : Int) ≤ (m : Int) + (T.size : Int) := by omega
          have s8 : m ≤ m + T.size := by omega
          have hte : T.toList.isEmpty = false := by simpa using htn
          have hgt : decide ((a0.size : Int) < (m : Int) + (T.size : Int)) = false := by simp; omega
          clear htn
          go_wp2_with fail
          go_quiet (fail)
          clear s1 s3 s4 s7 s8 hext
          go_wp2
          all_goals first | exact ⟨⟨k + 1, by omega, by go_num, ⟨m + T.size, by go_num, HM2, by omega⟩, _, rfl⟩, by simp [intOf]; omega⟩ | (exfalso; simp_all; done)
        · obtain rfl : k = l.length := by omega
          have hms : m = a0.size := by rw [HM.out, List.take_length, HSZ.out]
          subst hms
          have hlt2 : g < (w1.drewN nd).heap.size := hlt
          have HW2 : Below w.heap.size w (w1.drewN nd) := below_drewN HW nd
          go_wp2_with (go_at_call 16; refine (join_any g cap l _ (show Toks (w1.drewN nd) g l from HT.out) hlt2 HJL.out (by omega)).mono ?_; rintro e w5 ⟨rfl, hb⟩; rw [HSTR.out]; have HX := below_on HW2 hb)
          go_ret
          exact ⟨by simp, HX⟩

set_option maxRecDepth 100000 in
theorem lifted (os : Os) (started : os.Started) (H : Type) (enc : TypeId × Value → H) :
    ReturnsInHanded {} Try.checked os 4 .any (Rows.lexerLosslessSpec.pre6 enc Try.prog Try.f4 Rows.lexerLosslessRow.domain false) (Rows.lexerLosslessSpec.post enc Try.prog Try.f4 false true false false) := by
  refine returnsInHanded_of_change (C := Try.checked) own started (by kernel_rfl) Try.func4
    (ChangeSpec.witness6 (enc := enc) (C := Try.checked) false ⟨#[], #[.string ByteArray.empty], []⟩ 8 (by kernel_rfl) (by kernel_rfl) (by kernel_rfl) (by kernel_rfl)) ?_
  intro W base args ds gs before hval0 hW hcnd _
  have hval : ∀ (j : Nat) t v, Try.f4.params[j]? = some t → args[j]? = some v → Value.okWide Try.prog W .any base t v := hval0
  have hW' := hW
  obtain ⟨p, q, hA0, hV, rfl, hfz, hnd⟩ := hW
  have hA : DataW.TrodAll enc Try.prog W 0 (fun _ => true) true Try.f4.params.toList args.toList ds p := hA0
  rw [Try.params4] at hA hval
  obtain ⟨v0, vs0, d0, ds0, p0, q0, hargs, rfl, rfl, h0, r0⟩ := trodAll_cons hA
  obtain ⟨rfl, rfl, rfl⟩ := trodAll_nil r0
  obtain rfl : args = #[v0] := by cases args; simp_all
  obtain ⟨rfl, rfl⟩ := trodVars_none hV
  obtain ⟨a0, rfl, rfl, rfl, w0⟩ := open_string Try.underlying9 (hval 0 9 v0 rfl rfl) h0
  clear hA0 hval0
  refine (walk a0 W w0).mono fun e W' ⟨he, bel⟩ => ?_
  subst he
  exact ⟨_, rfl, _, _, _, [], _, [], hW', trodAll_mk1 (shut_bool Try.underlying4 _), (trodAll_cons_mk (shut_string Try.underlying9 w0) trodAll_mk0), rfl, bel.frame _, fun h => by cases h⟩

theorem over : Rows.lexerLosslessRow.holds Try.pinned (OpenSpec.ofChange Rows.lexerLosslessSpec) :=
  OpenClaim.holds_of_wide 4 Try.f4 rfl rfl rfl rfl rfl rfl rfl ⟨rfl, rfl, rfl, rfl, rfl⟩ rfl rfl rfl rfl rfl (by kernel_rfl) Try.func4 (by kernel_rfl)
    (of_decide_eq_true (by kernel_rfl)) (by unfold Func.isWrapper; first | (rw [if_pos (by decide +kernel)]; kernel_rfl) | (rw [if_neg (by decide +kernel)]; exact ⟨rfl, rfl⟩))
    (fun os started H enc _ => lifted os started H enc)

theorem proved : Rows.LexerLosslessSaid := over
#print axioms proved
end Go.Proofs.Yteofoakkgkhjcaa.lexerLossless
