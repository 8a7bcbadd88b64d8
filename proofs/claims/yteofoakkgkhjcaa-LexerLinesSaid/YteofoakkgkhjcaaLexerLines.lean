/- LexerLines answers true for all strings, and changes nothing that existed; no conditions. -/
import Derived.Test.YteofoakkgkhjcaaRows
import Derived.WalkKit
import Derived.ProofKit
import Derived.OpenShut
import Derived.ShutString
import Derived.ChangeOld
import Derived.Below
import Derived.Test.YteofoakkgkhjcaaSeam
import Derived.Lib.Hide
import Derived.WalkSmall
import Derived.WalkSpells
import Derived.WalkLawsBesides
import Derived.IntWalk
import Derived.Outline
import Derived.Deep.RegionWith
import Derived.Deep.Cut
import Derived.Deep.CutRange
import Derived.Deep.DeepCutAuto
import Derived.Deep.QuietTactic
import Derived.BigQuiet
namespace Go.Proofs.Yteofoakkgkhjcaa.lexerLines
open Go.ChangeShapes Go.WideShapes Go.ChangeAt Go.RowKit
open Go.ChangeMaps (open_string shut_string)
set_option linter.unusedSimpArgs false
set_option linter.unusedVariables false

theorem own : ownKnob Try.prog.godebug = none := by kernel_rfl
theorem laidOut : laidOutB Try.prog = true := by kernel_rfl

set_option maxRecDepth 100000 in
set_option maxHeartbeats 1000000 in
theorem walk (a0 : ByteArray) (a1 : ByteArray) (w : World) (w0 : a0.size ≤ maxLen) (w1 : a1.size ≤ maxLen) :
    Calls Try.prog 7 #[.string a0, .string a1] w fun e w' => e = .returned (.bool true) ∧ Below w.heap.size w w' := by
  have HW : Below w.heap.size w w := Below.refl _ _
  by_cases hbig : 200 < a0.size ∨ 200 < a1.size
  · by_cases h0 : 200 < a0.size
    · have hd : decide ((200 : Int) < (a0.size : Int)) = true := by simp; omega
      go_enter Try.func7, Try.ntmps7
      go_wp2_with (go_at_call 12; refine (awake_any _).mono ?_; rintro e w1 ⟨rfl, hb⟩; replace HW := below_on HW hb; clear hb)
      go_ret
      exact ⟨rfl, HW⟩
    · have hd : decide ((200 : Int) < (a0.size : Int)) = false := by simp; omega
      have hd2 : decide ((200 : Int) < (a1.size : Int)) = true := by simp; omega
      go_enter Try.func7, Try.ntmps7
      go_wp2_with (go_at_call 12; refine (awake_any _).mono ?_; rintro e w1 ⟨rfl, hb⟩; replace HW := below_on HW hb; clear hb)
      go_ret
      exact ⟨rfl, HW⟩
  have hd : decide ((200 : Int) < (a0.size : Int)) = false := by simp; omega
  have hd2 : decide ((200 : Int) < (a1.size : Int)) = false := by simp; omega
  have hs0 : a0.size ≤ 65536 := by omega
  have hs1 : a1.size ≤ 65536 := by omega
  have hs2 : ((a0 ++ (⟨#[10]⟩ : ByteArray)) ++ a1).size ≤ 65536 := by rw [app_size]; omega
  obtain ⟨x, ox, hx⟩ : ∃ l o, lexR a0.data.toList 0 = (l, o) := ⟨_, _, rfl⟩
  obtain ⟨y, oy, hy⟩ : ∃ l o, lexR a1.data.toList 0 = (l, o) := ⟨_, _, rfl⟩
  have hz := app_data a0 a1
  have hsz2 := app_size a0 a1
  have HS2 := Lib.hid hs2
  clear hs2
  cases ox with
  | some p =>
    have HX : Hid ((lexR a0.data.toList 0).2 = some p) := Lib.hid (by rw [hx])
    have HZ : Hid ((lexR ((a0 ++ (⟨#[10]⟩ : ByteArray)) ++ a1).data.toList 0).2 = some p) := Lib.hid (by rw [hz]; exact lines_bad1 _ _ _ HX.out)
    clear hx hy hz hsz2
    go_enter Try.func7, Try.ntmps7
    go_wp2_with (first
      | (go_at_call 12; refine (awake_any _).mono ?_; rintro e w1 ⟨rfl, hb⟩; replace HW := below_on HW hb; clear hb)
      | (go_at_call_of 13 a0; go_at_call_of 13 a1; go_loud (refine (lex_bad _ _ _ HS2.out HZ.out).mono ?_; rintro e w1 ⟨rfl, hb⟩; replace HW := below_on HW hb; clear hb))
      | (go_at_call_of 13 a0; refine (lex_bad a0 _ _ hs0 HX.out).mono ?_; rintro e w1 ⟨rfl, hb⟩; replace HW := below_on HW hb; clear hb)
      | (go_at_call_of 13 a1; refine (lex_some a1 _ hs1).mono ?_; rintro e w1 ⟨v, k1, k2, rfl, hb⟩; replace HW := below_on HW hb; clear hb))
    go_ret
    exact ⟨by simp, HW⟩
  | none =>
    cases oy with
    | some q =>
      have HX := Lib.hid hx
      have HY : Hid ((lexR a1.data.toList 0).2 = some q) := Lib.hid (by rw [hy])
      have HZ : Hid ((lexR ((a0 ++ (⟨#[10]⟩ : ByteArray)) ++ a1).data.toList 0).2 = some (a0.size + 1 + q)) := Lib.hid (by rw [hz]; exact lines_bad2 _ _ _ _ hx HY.out)
      have hq : q ≤ a1.size := by
        obtain ⟨k, h1, h2, _⟩ := lexL_error a1.data.toList.length a1.data.toList 0 y q (Nat.le_refl _) hy
        have h3 : a1.data.toList.length = a1.size := rfl
        omega
      have s1 : IntKind.i64.wrap ((a0.size : Int) + 1) = (a0.size : Int) + 1 := IntWalk.i64_in _ (by omega)
      have s2 : IntKind.i64.wrap ((a0.size : Int) + 1 + (q : Int)) = (a0.size : Int) + 1 + (q : Int) := IntWalk.i64_in _ (by omega)
      clear hx hy hz hsz2
      go_enter Try.func7, Try.ntmps7
      go_wp2_with (first
        | (go_at_call 12; refine (awake_any _).mono ?_; rintro e w1 ⟨rfl, hb⟩; replace HW := below_on HW hb; clear hb)
        | (go_at_call_of 13 a0; go_at_call_of 13 a1; refine (lex_bad _ _ _ HS2.out HZ.out).mono ?_; rintro e w1 ⟨rfl, hb⟩; replace HW := below_on HW hb; clear hb)
        | (go_at_call_of 13 a0; refine (lexG_ok a0 _ _ hs0 HX.out).mono ?_; rintro e w1 ⟨a, cap, rfl, ht, hb⟩; replace HW := below_on HW hb; clear hb ht)
        | (go_at_call_of 13 a1; refine (lex_bad a1 _ _ hs1 HY.out).mono ?_; rintro e w1 ⟨rfl, hb⟩; replace HW := below_on HW hb; clear hb))
      go_ret
      exact ⟨by simp, HW⟩
    | none =>
      obtain ⟨z, hzz, hsol⟩ := lines_all _ _ x y hx hy
      have HZ : Hid (lexR ((a0 ++ (⟨#[10]⟩ : ByteArray)) ++ a1).data.toList 0 = (z, none)) := Lib.hid (by rw [hz]; exact hzz)
      have HX := Lib.hid hx
      have HY := Lib.hid hy
      have HSOL := Lib.hid hsol
      have hlx : x.length ≤ 200 := by
        have := lexR_len a0.data.toList 0
        have h3 : a0.data.toList.length = a0.size := rfl
        rw [hx] at this; simp only at this; omega
      have hly : y.length ≤ 200 := by
        have := lexR_len a1.data.toList 0
        have h3 : a1.data.toList.length = a1.size := rfl
        rw [hy] at this; simp only at this; omega
      have hlz : z.length ≤ 401 := by
        have := lexR_len (a0.data.toList ++ 10 :: a1.data.toList) 0
        rw [hzz, List.length_append, List.length_cons] at this
        have h3 : a0.data.toList.length = a0.size := rfl
        have h4 : a1.data.toList.length = a1.size := rfl
        simp only at this; omega
      have HPY : Hid (∀ t ∈ y, t.p ≤ 200) := Lib.hid fun t ht => by
        have := pos_le a1.data.toList t (by rw [hy]; exact ht)
        have h4 : a1.data.toList.length = a1.size := rfl
        omega
      have hl1 : x.length ≤ 65536 := by omega
      have hl2 : y.length ≤ 65536 := by omega
      have hl3 : z.length ≤ 65536 := by omega
      have hlen : (solidG (z.map toG)).length = (solidG (x.map toG)).length + (solidG (y.map toG)).length := by
        rw [solid_toG, solid_toG, solid_toG, hsol]; simp
      obtain ⟨nx, hnx⟩ : ∃ n, (solidG (x.map toG)).length = n := ⟨_, rfl⟩
      obtain ⟨ny, hny⟩ : ∃ n, (solidG (y.map toG)).length = n := ⟨_, rfl⟩
      have hbx : nx ≤ 200 := by have := solidG_len (x.map toG); rw [List.length_map] at this; omega
      have hby : ny ≤ 200 := by have := solidG_len (y.map toG); rw [List.length_map] at this; omega
      have HNX := Lib.hid hnx
      have HNY := Lib.hid hny
      have HNZ : Hid ((solidG (z.map toG)).length = nx + ny) := Lib.hid (by rw [hlen, hnx, hny])
      clear hx hy hz hsz2 hzz hsol hlx hly hlz hlen hnx hny
      go_enter Try.func7, Try.ntmps7
      go_wp2_with (first
        | (go_at_call 12; refine (awake_any _).mono ?_; rintro e w1 ⟨rfl, hb⟩; replace HW := below_on HW hb; clear hb)
        | (go_at_call_of 13 a0; go_at_call_of 13 a1; refine (lexG_ok _ _ _ HS2.out HZ.out).mono ?_; rintro e w1 ⟨az, cz, rfl, ht, hb⟩; replace HW := below_on HW hb; replace TX := Lib.hid (TX.out.below hb); replace TY := Lib.hid (TY.out.below hb); have TZ := Lib.hid ht; clear hb ht)
        | (go_at_call_of 13 a0; refine (lexG_ok a0 _ _ hs0 HX.out).mono ?_; rintro e w1 ⟨ax, cx, rfl, ht, hb⟩; replace HW := below_on HW hb; have TX := Lib.hid ht; clear hb ht)
        | (go_at_call_of 13 a1; refine (lexG_ok a1 _ _ hs1 HY.out).mono ?_; rintro e w1 ⟨ay, cy, rfl, ht, hb⟩; replace HW := below_on HW hb; replace TX := Lib.hid (TX.out.below hb); have TY := Lib.hid ht; clear hb ht)
        | (go_at_call_of 17 ax; refine (solidS_any _ _ x.length (x.map toG) _ TX.out (List.length_map _) hl1).mono ?_; rintro e w1 ⟨au, cu, rfl, ht, hb, -⟩; rw [HNX.out]; replace HW := below_on HW hb; replace TY := Lib.hid (TY.out.below hb); replace TZ := Lib.hid (TZ.out.below hb); have TU := Lib.hid ht; clear hb ht)
        | (go_at_call_of 17 ay; refine (solidS_any _ _ y.length (y.map toG) _ TY.out (List.length_map _) hl2).mono ?_; rintro e w1 ⟨av, cv, rfl, ht, hb, -⟩; rw [HNY.out]; replace HW := below_on HW hb; replace TU := Lib.hid (TU.out.below hb); replace TZ := Lib.hid (TZ.out.below hb); have TV := Lib.hid ht; clear hb ht)
        | (go_at_call_of 17 az; refine (solidS_any _ _ z.length (z.map toG) _ TZ.out (List.length_map _) hl3).mono ?_; rintro e w1 ⟨aw, cw, rfl, ht, hb, -⟩; rw [HNZ.out]; replace HW := below_on HW hb; replace TU := Lib.hid (TU.out.below hb); replace TV := Lib.hid (TV.out.below hb); have TW := Lib.hid ht; clear hb ht))
      have HEL : Hid (∀ (k : Nat) (t : GT), (solidG (z.map toG))[k]? = some t → (k < nx → (solidG (x.map toG))[k]? = some t) ∧ (nx ≤ k → ∃ t', (solidG (y.map toG))[k - nx]? = some t' ∧ t.k = t'.k ∧ t.t = t'.t ∧ t.p = t'.p + ((a0.size : Int) + 1) ∧ 0 ≤ t'.p ∧ t'.p ≤ 200)) := Lib.hid (by
        intro k t ht
        rw [solid_toG, HSOL.out, List.map_append] at ht
        have hn1 : ((solid x).map toG).length = nx := by rw [← solid_toG]; exact HNX.out
        refine ⟨fun hk => ?_, fun hk => ?_⟩
        · rw [List.getElem?_append_left (by omega)] at ht
          rw [solid_toG]; exact ht
        · rw [List.getElem?_append_right (by omega), hn1, List.getElem?_map, List.getElem?_map] at ht
          rw [solid_toG, List.getElem?_map]
          cases hy : (solid y)[k - nx]? with
          | none => rw [hy] at ht; cases ht
          | some t' =>
            rw [hy] at ht
            simp only [Option.map_some, Option.some.injEq] at ht
            refine ⟨_, rfl, by rw [← ht]; rfl, by rw [← ht]; rfl, ?_, ?_, ?_⟩
            · rw [← ht]
              show ((t'.p + (a0.data.toList.length + 1) : Nat) : Int) = _
              have h3 : a0.data.toList.length = a0.size := rfl
              show _ = (t'.p : Int) + _
              omega
            · show (0 : Int) ≤ (t'.p : Int); omega
            · have hm : t' ∈ y := (List.mem_filter.1 (List.mem_of_getElem? hy)).1
              have := HPY.out t' hm
              show (t'.p : Int) ≤ 200; omega)
      clear TX TY TZ
      go_loopw [17] (fun i wr => ∃ k : Nat, k ≤ nx + ny ∧ i = .int .i64 k ∧ Hid (Below w1.heap.size w1 wr)) (fun i _ => nx + ny - (intOf i).toNat)
      case atStart => exact ⟨0, by omega, rfl, Lib.hid (Below.refl _ _)⟩
      case round =>
        obtain ⟨k, hk, rfl, HB⟩ := hrel
        by_cases hkl : k < nx + ny
        · obtain ⟨t, hx⟩ : ∃ t, (solidG (z.map toG))[k]? = some t := ⟨_, List.getElem?_eq_getElem (by have := HNZ.out; omega)⟩
          obtain ⟨bw, ow, rfl, hlw, htw⟩ := TW.out (fun e => by rw [e] at hx; simp at hx)
          obtain ⟨d0, d1, d2⟩ := htw k t hx
          replace d0 := (HB.out.cell (p := ⟨bw, ow + k * 3, none⟩) hlw).trans d0
          replace d1 := (HB.out.cell (p := ⟨bw, ow + k * 3 + 1, none⟩) hlw).trans d1
          replace d2 := (HB.out.cell (p := ⟨bw, ow + k * 3 + 2, none⟩) hlw).trans d2
          have hsz := HB.out.size
          have hzw : bw < wr.heap.size := by omega
          have hneq := @neq_same
          have hdl : decide ((k : Int) < ((nx + ny : Nat) : Int)) = true := by simp; omega
          have hdl2 : (k : Int) < (nx : Int) + (ny : Int) := by omega
          obtain ⟨e1, e2⟩ := HEL.out k t hx
          clear hx htw
          by_cases hkx : k < nx
          · have hx' := e1 hkx
            clear e1 e2
            obtain ⟨bu, ou, rfl, hlu, htu⟩ := TU.out (fun e => by rw [e] at hx'; simp at hx')
            obtain ⟨c0, c1, c2⟩ := htu k t hx'
            replace c0 := (HB.out.cell (p := ⟨bu, ou + k * 3, none⟩) hlu).trans c0
            replace c1 := (HB.out.cell (p := ⟨bu, ou + k * 3 + 1, none⟩) hlu).trans c1
            replace c2 := (HB.out.cell (p := ⟨bu, ou + k * 3 + 2, none⟩) hlu).trans c2
            have hzu : bu < wr.heap.size := by omega
            clear htu hx'
            have hdk : decide ((k : Int) < (nx : Int)) = true := by simp; omega
            have hdk2 : (k : Int) < (nx : Int) := by omega
            generalize (⟨t.t.toArray⟩ : ByteArray) = T at *
            go_upto_region 23 with fail
            go_quiet (fail)
            go_wp2
            go_roundw
            case rel =>
              refine ⟨k + 1, by omega, by go_num, Lib.hid ?_⟩
              refine below_drewN ?_ _
              exact HB.out.alloc hsz _
            case measure => simp [intOf]; omega
          · obtain ⟨t', hx', f1, f2, f3, f4, f5⟩ := e2 (by omega)
            clear e1 e2
            obtain ⟨bu, ou, rfl, hlu, htu⟩ := TV.out (fun e => by rw [e] at hx'; simp at hx')
            obtain ⟨c0, c1, c2⟩ := htu (k - nx) t' hx'
            replace c0 := (HB.out.cell (p := ⟨bu, ou + (k - nx) * 3, none⟩) hlu).trans c0
            replace c1 := (HB.out.cell (p := ⟨bu, ou + (k - nx) * 3 + 1, none⟩) hlu).trans c1
            replace c2 := (HB.out.cell (p := ⟨bu, ou + (k - nx) * 3 + 2, none⟩) hlu).trans c2
            have hzu : bu < wr.heap.size := by omega
            clear htu hx'
            rw [← f1] at c0
            rw [← f2] at c1
            have hdk : decide ((k : Int) < (nx : Int)) = false := by simp; omega
            have hdk2 : ¬ (k : Int) < (nx : Int) := by omega
            generalize (⟨t.t.toArray⟩ : ByteArray) = T at *
            have g1 : IntKind.i64.wrap ((k : Int) - (nx : Int)) = (k : Int) - (nx : Int) := IntWalk.i64_in _ (by omega)
            have g2 : (0 : Int) ≤ (k : Int) - (nx : Int) := by omega
            have g3 : (k : Int) - (nx : Int) < (ny : Int) := by omega
            have g4 : ((k : Int) - (nx : Int)).toNat = k - nx := by omega
            have g5 : IntKind.i64.wrap ((a0.size : Int) + 1) = (a0.size : Int) + 1 := IntWalk.i64_in _ (by omega)
            have g6 : IntKind.i64.wrap (t'.p + ((a0.size : Int) + 1)) = t'.p + ((a0.size : Int) + 1) := IntWalk.i64_in _ (by omega)
            rw [f3] at d2
            go_upto_region 23 with fail
            go_quiet (fail)
            go_wp2
            go_roundw
            case rel =>
              refine ⟨k + 1, by omega, by go_num, Lib.hid ?_⟩
              refine below_drewN ?_ _
              exact HB.out.alloc hsz _
            case measure => simp [intOf]; omega
        · obtain rfl : k = nx + ny := by omega
          have hdl : decide (((nx + ny : Nat) : Int) < ((nx + ny : Nat) : Int)) = false := by simp
          have HR := HW.trans (HB.out.mono HW.size)
          go_wp2
          refine bodyPost_ret (v := .bool true) (by simp [results, Try.results7, go_sem]) rfl ?_
          exact ⟨rfl, HR⟩

set_option maxRecDepth 100000 in
theorem lifted (os : Os) (started : os.Started) (H : Type) (enc : TypeId × Value → H) :
    ReturnsInHanded {} Try.checked os 7 .any (Rows.lexerLinesSpec.pre6 enc Try.prog Try.f7 Rows.lexerLinesRow.domain false) (Rows.lexerLinesSpec.post enc Try.prog Try.f7 false true false false) := by
  refine returnsInHanded_of_change (C := Try.checked) own started (by kernel_rfl) Try.func7
    (ChangeSpec.witness6 (enc := enc) (C := Try.checked) false ⟨#[], #[.string ByteArray.empty, .string ByteArray.empty], []⟩ 8 (by kernel_rfl) (by kernel_rfl) (by kernel_rfl) (by kernel_rfl)) ?_
  intro W base args ds gs before hval0 hW hcnd _
  have hval : ∀ (j : Nat) t v, Try.f7.params[j]? = some t → args[j]? = some v → Value.okWide Try.prog W .any base t v := hval0
  have hW' := hW
  obtain ⟨p, q, hA0, hV, rfl, hfz, hnd⟩ := hW
  have hA : DataW.TrodAll enc Try.prog W 0 (fun _ => true) true Try.f7.params.toList args.toList ds p := hA0
  rw [Try.params7] at hA hval
  obtain ⟨v0, vs0, d0, ds0, p0, q0, hargs, rfl, rfl, h0, r0⟩ := trodAll_cons hA
  obtain ⟨v1, vs1, d1, ds1, p1, q1, rfl, rfl, rfl, h1, r1⟩ := trodAll_cons r0
  obtain ⟨rfl, rfl, rfl⟩ := trodAll_nil r1
  obtain rfl : args = #[v0, v1] := by cases args; simp_all
  obtain ⟨rfl, rfl⟩ := trodVars_none hV
  obtain ⟨a0, rfl, rfl, rfl, w0⟩ := open_string Try.underlying9 (hval 0 9 v0 rfl rfl) h0
  obtain ⟨a1, rfl, rfl, rfl, w1⟩ := open_string Try.underlying9 (hval 1 9 v1 rfl rfl) h1
  clear hA0 hval0
  refine (walk a0 a1 W w0 w1).mono fun e W' ⟨he, bel⟩ => ?_
  subst he
  exact ⟨_, rfl, _, _, _, [], _, [], hW', trodAll_mk1 (shut_bool Try.underlying4 _), (trodAll_cons_mk (shut_string Try.underlying9 w0) (trodAll_cons_mk (shut_string Try.underlying9 w1) trodAll_mk0)), rfl, bel.frame _, fun h => by cases h⟩

theorem over : Rows.lexerLinesRow.holds Try.pinned (OpenSpec.ofChange Rows.lexerLinesSpec) :=
  OpenClaim.holds_of_wide 7 Try.f7 rfl rfl rfl rfl rfl rfl rfl ⟨rfl, rfl, rfl, rfl, rfl⟩ rfl rfl rfl rfl rfl (by kernel_rfl) Try.func7 (by kernel_rfl)
    (of_decide_eq_true (by kernel_rfl)) (by unfold Func.isWrapper; first | (rw [if_pos (by decide +kernel)]; kernel_rfl) | (rw [if_neg (by decide +kernel)]; exact ⟨rfl, rfl⟩))
    (fun os started H enc _ => lifted os started H enc)

theorem proved : Rows.LexerLinesSaid := over
#print axioms proved
end Go.Proofs.Yteofoakkgkhjcaa.lexerLines
