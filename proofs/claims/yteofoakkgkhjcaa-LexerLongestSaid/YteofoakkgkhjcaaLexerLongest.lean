/- LexerLongest answers true for every string and every byte, and changes nothing that existed; no conditions. -/
import Derived.Test.YteofoakkgkhjcaaRows
import Derived.WalkKit
import Derived.ProofKit
import Derived.OpenShut
import Derived.ShutString
import Derived.ChangeOld
import Derived.Below
import Derived.Test.YteofoakkgkhjcaaAwake
import Derived.Test.YteofoakkgkhjcaaSuffix
import Derived.Lib.Hide
import Derived.WalkSmall
import Derived.Deep.QuietTactic
import Derived.BigQuiet
import Derived.WalkSpells
import Derived.WalkLawsBesides
import Derived.IntWalk
import Derived.Outline
namespace Go.Proofs.Yteofoakkgkhjcaa.lexerLongest
open Go.ChangeShapes Go.WideShapes Go.ChangeAt Go.RowKit
open Go.ChangeMaps (open_string shut_string)
set_option linter.unusedSimpArgs false
set_option linter.unusedVariables false

theorem own : ownKnob Try.prog.godebug = none := by kernel_rfl
theorem laidOut : laidOutB Try.prog = true := by kernel_rfl
theorem below_on {w0 w w' : World} (h : Below w0.heap.size w0 w) (hb : Below w.heap.size w w') : Below w0.heap.size w0 w' := h.trans (hb.mono h.size)

set_option maxRecDepth 100000 in
set_option maxHeartbeats 2000000 in
theorem walk (a0 : ByteArray) (a1 : Int) (w : World) (w0 : a0.size ≤ maxLen) (w1 : (Lit.int .u8 a1).wf = true) :
    Calls Try.prog 6 #[.string a0, .int .u8 a1] w fun e w' => e = .returned (.bool true) ∧ Below w.heap.size w w' := by
  have HW : Below w.heap.size w w := Below.refl _ _
  have bk := bounds_u8 w1
  obtain ⟨K, rfl⟩ : ∃ K : Nat, a1 = K := ⟨a1.toNat, by omega⟩
  by_cases hbig : 200 < a0.size
  · go_enter Try.func6, Try.ntmps6
    go_wp2_with (go_at_call 12; refine (awake_any _).mono ?_; rintro e w1 ⟨rfl, hb⟩; replace HW := below_on HW hb; clear hb)
    go_ret
    exact ⟨rfl, HW⟩
  have hs : a0.size ≤ 65536 := by omega
  obtain ⟨l, o, hl⟩ : ∃ l o, lexR a0.data.toList 0 = (l, o) := ⟨_, _, rfl⟩
  cases o with
  | some a =>
    have HB : Hid ((lexR a0.data.toList 0).2 = some a) := Lib.hid (by rw [hl])
    clear hl
    go_enter Try.func6, Try.ntmps6
    go_wp2_with (first | (go_at_call 12; refine (awake_any _).mono ?_; rintro e w1 ⟨rfl, hb⟩; replace HW := below_on HW hb; clear hb) | (go_at_call 13; refine (lex_bad _ _ _ hs HB.out).mono ?_; rintro e w1 ⟨rfl, hb⟩; replace HW := below_on HW hb; clear hb))
    go_ret
    exact ⟨rfl, HW⟩
  | none =>
    by_cases hne : l = []
    · subst hne
      have HE := Lib.hid hl
      clear hl
      go_enter Try.func6, Try.ntmps6
      go_wp2_with (first | (go_at_call 12; refine (awake_any _).mono ?_; rintro e w1 ⟨rfl, hb⟩; replace HW := below_on HW hb; clear hb) | (go_at_call 13; refine (lex_empty _ _ hs HE.out).mono ?_; rintro e w1 ⟨rfl, hb⟩; replace HW := below_on HW hb; clear hb))
      go_ret
      exact ⟨rfl, HW⟩
    · have HE := Lib.hid hl
      have HNE := Lib.hid hne
      have hll : l.length ≤ 200 := by
        have := lexR_len a0.data.toList 0
        rw [hl] at this
        have h2 : a0.data.toList.length = a0.size := rfl
        simp only at this
        omega
      have hpos : 0 < l.length := List.length_pos_iff.2 hne
      obtain ⟨n, hn⟩ : ∃ n, n = K % l.length := ⟨_, rfl⟩
      have hnl : n < l.length := by rw [hn]; exact Nat.mod_lt _ hpos
      have HMOD : Hid ((K : Int) % (l.length : Int) = (n : Int)) := Lib.hid (by rw [hn]; rfl)
      obtain ⟨x, hx⟩ : ∃ x, l[n]? = some x := ⟨_, List.getElem?_eq_getElem hnl⟩
      obtain ⟨hp, ms, hm, hmlen, hmne, hmat⟩ := suffix hl hx
      have hp2 : x.p ≤ a0.size := hp
      have hext : lexR (a0.extract x.p a0.size).data.toList 0 = (ms, none) := by rw [ext_data]; exact hm
      have hsz : (a0.extract x.p a0.size).size ≤ 65536 := by
        show (a0.extract x.p a0.size).data.toList.length ≤ _
        rw [ext_data, List.length_drop]
        have : a0.data.toList.length = a0.size := rfl
        omega
      have HALL : Hid (∀ (i : Nat) (y : Tok), l[i]? = some y → y.p ≤ a0.size) := Lib.hid (fun i y hy => by
        have := (suffix hl hy).1
        exact this)
      have HX := Lib.hid hx
      have HM := Lib.hid hext
      have HMNE := Lib.hid hmne
      have HMAT := Lib.hid hmat
      have HML := Lib.hid hmlen
      have hz1 : (l.length : Int) ≠ 0 := by omega
      clear hl hne hn hx hm hmne hmat hext hp hmlen
      have hmod := HMOD.out
      go_enter Try.func6, Try.ntmps6
      go_wp2_with (go_at_call 12; refine (awake_any _).mono ?_; rintro e w1 ⟨rfl, hb⟩; replace HW := below_on HW hb; clear hb)
      refine (lex_ok _ l _ hs HE.out HNE.out).mono ?_
      rintro e w1 ⟨g, cap, rfl, hg, hlt, ht, hb⟩
      replace HW := below_on HW hb
      have HT := Lib.hid ht
      have c2 := (ht n x HX.out).2.2
      clear hb hg ht
      go_wp2_with fail
      refine (lex_ok _ ms _ hsz HM.out HMNE.out).mono ?_
      rintro e w2 ⟨g2, cap2, rfl, hg2, hlt2, ht2, hb2⟩
      have HT2 := Lib.hid (HT.out.below hlt hb2)
      have HM2 := Lib.hid ht2
      have hlt3 : g < w2.heap.size := Nat.lt_of_lt_of_le hlt hb2.size
      have HW2 := below_on HW hb2
      replace c2 := (hb2.cell (p := ⟨g, n * 3 + 2, none⟩) hlt).trans c2
      have hml : (ms.length : Int) = (l.length : Int) - (n : Int) := by have := HML.out; omega
      have HML2 := Lib.hid hml
      have hmleq : ms.length = l.length - n := HML.out
      have hq : decide (ms.length = l.length - n) = true := by simpa using hmleq
      have hbb : ((ms.length : Int) != (l.length : Int) - (n : Int)) = false := by simpa using hml
      have HQ := Lib.hid hmleq
      have hmsl : ms.length ≤ 200 := by omega
      clear HT HW ht2 hb2 hg2 hlt hmod hz1 hml hmleq hq
      go_wp2_with fail
      clear hbb
      go_loopw [12] (fun i wr => ∃ k : Nat, k ≤ ms.length ∧ i = .int .i64 k ∧ ∃ nd, wr = w2.drewN nd) (fun i _ => ms.length - (intOf i).toNat)
      case atStart => exact ⟨0, by omega, rfl, 0, rfl⟩
      case round =>
        obtain ⟨k, hk, rfl, nd, rfl⟩ := hrel
        by_cases hkl : k < ms.length
        · obtain ⟨m, hm⟩ : ∃ m, ms[k]? = some m := ⟨_, List.getElem?_eq_getElem hkl⟩
          obtain ⟨d0, d1, d2⟩ := HM2.out k m hm
          have hm2 := HMAT.out k m hm
          obtain ⟨e0, e1, e2⟩ := HT2.out (n + k) _ hm2
          have hmp : m.p + x.p ≤ a0.size := HALL.out (n + k) _ hm2
          have e2' : w2.cell? ⟨g, (n + k) * 3 + 2, none⟩ = some (.int .i64 ((m.p : Int) + (x.p : Int))) := e2
          have s1 : IntKind.i64.wrap ((n : Int) + (k : Int)) = (n : Int) + (k : Int) := IntWalk.i64_in _ (by have := HQ.out; omega)
          have s2 : IntKind.i64.wrap ((m.p : Int) + (x.p : Int) - (x.p : Int)) = (m.p : Int) := by rw [IntWalk.i64_in _ (by omega)]; omega
          have s3 : (0 : Int) ≤ (n : Int) + (k : Int) := by omega
          have s4 : ((n : Int) + (k : Int)).toNat = n + k := by omega
          have s6 : n + k < l.length := by have := HQ.out; omega
          have s5 : (n : Int) + (k : Int) < (l.length : Int) := by omega
          clear e2 hm hm2
          go_wp2_with fail
          go_quiet (fail)
          clear s1 s2 s3 s4 s5 s6 d0 d1 d2 e0 e1 e2'
          go_wp2
          go_roundw
          case rel => exact ⟨k + 1, by omega, by go_num, _, rfl⟩
          case measure => simp [intOf]; omega
        · obtain rfl : k = ms.length := by omega
          go_wp2
          go_ret
          exact ⟨rfl, below_drewN HW2 _⟩

set_option maxRecDepth 100000 in
theorem lifted (os : Os) (started : os.Started) (H : Type) (enc : TypeId × Value → H) :
    ReturnsInHanded {} Try.checked os 6 .any (Rows.lexerLongestSpec.pre6 enc Try.prog Try.f6 Rows.lexerLongestRow.domain false) (Rows.lexerLongestSpec.post enc Try.prog Try.f6 false true false false) := by
  refine returnsInHanded_of_change (C := Try.checked) own started (by kernel_rfl) Try.func6
    (ChangeSpec.witness6 (enc := enc) (C := Try.checked) false ⟨#[], #[.string ByteArray.empty, .int .u8 0], []⟩ 8 (by kernel_rfl) (by kernel_rfl) (by kernel_rfl) (by kernel_rfl)) ?_
  intro W base args ds gs before hval0 hW hcnd _
  have hval : ∀ (j : Nat) t v, Try.f6.params[j]? = some t → args[j]? = some v → Value.okWide Try.prog W .any base t v := hval0
  have hW' := hW
  obtain ⟨p, q, hA0, hV, rfl, hfz, hnd⟩ := hW
  have hA : DataW.TrodAll enc Try.prog W 0 (fun _ => true) true Try.f6.params.toList args.toList ds p := hA0
  rw [Try.params6] at hA hval
  obtain ⟨v0, vs0, d0, ds0, p0, q0, hargs, rfl, rfl, h0, r0⟩ := trodAll_cons hA
  obtain ⟨v1, vs1, d1, ds1, p1, q1, rfl, rfl, rfl, h1, r1⟩ := trodAll_cons r0
  obtain ⟨rfl, rfl, rfl⟩ := trodAll_nil r1
  obtain rfl : args = #[v0, v1] := by cases args; simp_all
  obtain ⟨rfl, rfl⟩ := trodVars_none hV
  obtain ⟨a0, rfl, rfl, rfl, w0⟩ := open_string Try.underlying9 (hval 0 9 v0 rfl rfl) h0
  obtain ⟨a1, rfl, rfl, rfl, w1⟩ := open_int Try.underlying5 (hval 1 5 v1 rfl rfl) h1
  clear hA0 hval0
  refine (walk a0 a1 W w0 w1).mono fun e W' ⟨he, bel⟩ => ?_
  subst he
  exact ⟨_, rfl, _, _, _, [], _, [], hW', trodAll_mk1 (shut_bool Try.underlying4 _), (trodAll_cons_mk (shut_string Try.underlying9 w0) (trodAll_cons_mk (shut_int Try.underlying5 w1) trodAll_mk0)), rfl, bel.frame _, fun h => by cases h⟩

theorem over : Rows.lexerLongestRow.holds Try.pinned (OpenSpec.ofChange Rows.lexerLongestSpec) :=
  OpenClaim.holds_of_wide 6 Try.f6 rfl rfl rfl rfl rfl rfl rfl ⟨rfl, rfl, rfl, rfl, rfl⟩ rfl rfl rfl rfl rfl (by kernel_rfl) Try.func6 (by kernel_rfl)
    (of_decide_eq_true (by kernel_rfl)) (by unfold Func.isWrapper; first | (rw [if_pos (by decide +kernel)]; kernel_rfl) | (rw [if_neg (by decide +kernel)]; exact ⟨rfl, rfl⟩))
    (fun os started H enc _ => lifted os started H enc)

theorem proved : Rows.LexerLongestSaid := over
#print axioms proved
end Go.Proofs.Yteofoakkgkhjcaa.lexerLongest
