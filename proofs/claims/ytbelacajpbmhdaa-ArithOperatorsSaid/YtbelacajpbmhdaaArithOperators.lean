/- ArithOperators answers true for every operator byte, and changes nothing that existed; no conditions. -/
import Derived.Test.YtbelacajpbmhdaaRows
import Derived.WalkKit
import Derived.ProofKit
import Derived.OpenShut
import Derived.ShutString
import Derived.ChangeOld
import Derived.Below
import Derived.Test.YtbelacajpbmhdaaAwake
import Derived.Test.YtbelacajpbmhdaaUpdate
import Derived.Test.YtbelacajpbmhdaaOps
import Derived.Deep.QuietTactic
import Derived.BigQuiet
import Derived.WalkSmall
import Derived.Outline
import Derived.Lib.Hide
namespace Go.Proofs.Ytbelacajpbmhdaa.arithOperators
open Go.ChangeShapes Go.WideShapes Go.ChangeAt Go.RowKit
open Go.ChangeMaps (open_string shut_string)
set_option linter.unusedSimpArgs false
set_option linter.unusedVariables false

theorem own : ownKnob Try.prog.godebug = none := by kernel_rfl
theorem laidOut : laidOutB Try.prog = true := by kernel_rfl
/-- the list of operators lies at block g, and all that was there is as it was -/
def Opl (g : Nat) (w wr : World) : Prop := w.heap.size ≤ g ∧ (∀ j : Nat, j < 16 → wr.cell? ⟨g, j, none⟩ = some (.int .u8 (8 + j))) ∧ (∀ j : Nat, wr.frozen? ⟨g, j, none⟩ = false) ∧ Below w.heap.size w wr
/-- any sixteen bytes lie at block g -/
def Opz (g : Nat) (w wr : World) : Prop := w.heap.size ≤ g ∧ (∀ j : Nat, j < 16 → ∃ v, wr.cell? ⟨g, j, none⟩ = some (.int .u8 v)) ∧ (∀ j : Nat, wr.frozen? ⟨g, j, none⟩ = false) ∧ Below w.heap.size w wr
theorem ape_at (k : Nat) (h : k < 16) : ape (8 + (k : Int)) 1 = 0 := by unfold ape; split <;> simp <;> omega
def hasB (a : Int) (k : Nat) : Bool := decide (8 ≤ a ∧ a < 8 + (k : Int))
theorem hasB_eq (a : Int) (k : Nat) : hasB a (k + 1) = (hasB a k || (8 + (k : Int) == a)) := by
  unfold hasB
  rw [Bool.eq_iff_iff]; simp; omega
theorem Opl.opz {g : Nat} {w wr : World} (h : Opl g w wr) : Opz g w wr := ⟨h.1, fun j hj => ⟨_, h.2.1 j hj⟩, h.2.2.1, h.2.2.2⟩
theorem Opz.store {g : Nat} {w wr : World} (h : Opz g w wr) (k : Nat) (hk : k < 16) : Opz g w (wr.setCell ⟨g, k, none⟩ (.int .u8 0)) := by
  obtain ⟨v, hv⟩ := h.2.1 k hk
  refine ⟨h.1, fun j hj => ?_, fun j => (World.frozen?_setCell _ _ _ _).trans (h.2.2.1 j), h.2.2.2.setCell h.1 _⟩
  by_cases e : j = k
  · subst e; exact ⟨0, World.cell?_setCell_same _ _ _ hv⟩
  · obtain ⟨u, hu⟩ := h.2.1 j hj
    exact ⟨u, (World.cell?_setCell_other _ _ _ _ (by simp [e])).trans hu⟩
theorem Opl.drewN {g : Nat} {w wr : World} (h : Opl g w wr) (n : Nat) : Opl g w (wr.drewN n) := ⟨h.1, h.2.1, h.2.2.1, below_drewN h.2.2.2 n⟩

set_option maxHeartbeats 4000000 in
theorem walk (a0 : Int) (w : World) (w0 : (Lit.int .u8 a0).wf = true) :
    Calls Try.prog 9 #[.int .u8 a0] w fun e w' => e = .returned (.bool true) ∧ Below w.heap.size w w' := by
  have b0 := bounds_u8 w0
  go_enter Try.func9, Try.ntmps9
  go_wp2_with (first | (go_at_call 10; refine (awake_any _).mono ?_; rintro e w' ⟨rfl, rfl⟩) | (go_at_call 21; refine (operators_any _).mono ?_; rintro e w1 ⟨g, cap, rfl, hg, hc, hf, hb⟩; have HO : Opl g w w1 := ⟨hg, hc, hf, hb⟩; clear hg hc hf hb))

  go_loopw [19] (fun i wr => ∃ k : Nat, k ≤ 16 ∧ i = .int .i64 k ∧ Opl g w wr) (fun i _ => 16 - (intOf i).toNat)
  case atStart => exact ⟨0, by omega, rfl, HO⟩
  case round =>
    clear HO
    obtain ⟨k, hk, rfl, HO⟩ := hrel
    by_cases hlt : k < 16
    · have c0 := HO.2.1 k hlt
      have e0 := ape_at k hlt
      by_cases hk0 : k = 0
      · subst hk0
        have e8 : ape 8 1 = 0 := rfl
        have c8 : wr.cell? ⟨g, 0, none⟩ = some (.int .u8 8) := c0
        clear e0 c0
        go_wp2_with (first | (go_at_call 12; refine (refApply_any _ _ _ _).mono ?_; rintro e w' ⟨rfl, rfl⟩))
        go_quiet (fail)
        go_wp2
        go_roundw
        case rel => exact ⟨1, by omega, by go_num, HO.drewN _⟩
        case measure => simp [intOf]
      · have c1 := HO.2.1 (k - 1) (by omega)
        have g0 : 0 < k := by omega
        have g1 : (0 : Int) < (k : Int) := by omega
        obtain ⟨m, rfl⟩ : ∃ m, k = m + 1 := ⟨k - 1, by omega⟩
        have c2 : wr.cell? ⟨g, m, none⟩ = some (.int .u8 (8 + (m : Int))) := c1
        have c3 : wr.cell? ⟨g, m + 1, none⟩ = some (.int .u8 (8 + ((m : Int) + 1))) := c0
        have e3 : ape (8 + ((m : Int) + 1)) 1 = 0 := e0
        clear c1 c0 e0
        go_wp2_with (first | (go_at_call 12; refine (refApply_any _ _ _ _).mono ?_; rintro e w' ⟨rfl, rfl⟩))
        go_quiet (fail)
        go_wp2
        go_roundw
        case rel => exact ⟨m + 1 + 1, by omega, by go_num, HO.drewN _⟩
        case measure => simp [intOf]; omega
    · obtain rfl : k = 16 := by omega
      clear hk hlt
      go_wp2_with (first | (go_at_call 12; refine (refApply_any _ _ _ _).mono ?_; rintro e w' ⟨rfl, rfl⟩))
      go_loopw [9, 56] (fun b i wr => ∃ k : Nat, k ≤ 16 ∧ i = .int .i64 k ∧ b = .bool (hasB a0 k) ∧ Opl g w wr) (fun _ i _ => 16 - (intOf i).toNat)
      case atStart => exact ⟨0, by omega, rfl, by simp [hasB]; try omega, HO⟩
      case round =>
        clear HO
        obtain ⟨k, hk, rfl, rfl, HO⟩ := hrel
        by_cases hlt : k < 16
        · have c0 := HO.2.1 k hlt
          have HE := Lib.hid (hasB_eq a0 k)
          by_cases hb : hasB a0 k = true
          · go_wp2
            go_roundw
            case rel => exact ⟨k + 1, by omega, by go_num, by rw [HE.out, hb]; rfl, HO⟩
            case measure => simp [intOf]; omega
          · have hd : hasB a0 k = false := by simpa using hb
            clear hb
            go_wp2
            go_roundw
            case rel => exact ⟨k + 1, by omega, by go_num, by rw [HE.out, hd]; simp, HO⟩
            case measure => simp [intOf]; omega
        · obtain rfl : k = 16 := by omega
          clear hk hlt
          go_wp2
          go_loopw [69] (fun i wr => ∃ k : Nat, k ≤ 16 ∧ i = .int .i64 k ∧ Opz g w wr) (fun i _ => 16 - (intOf i).toNat)
          case atStart => exact ⟨0, by omega, rfl, HO.opz⟩
          case round =>
            clear HO
            obtain ⟨k, hk, rfl, HO⟩ := hrel
            by_cases hlt : k < 16
            · obtain ⟨v0, c0⟩ := HO.2.1 k hlt
              have f0 := HO.2.2.1 k
              have HN := HO.store k hlt
              go_wp2
              go_roundw
              case rel => exact ⟨k + 1, by omega, by go_num, HN⟩
              case measure => simp [intOf]; omega
            · obtain rfl : k = 16 := by omega
              clear hk hlt
              have HB := HO.2.2.2
              clear HO
              by_cases hin : 8 ≤ a0 ∧ a0 < 24
              · have h1 : hasB a0 16 = true := by unfold hasB; simp; omega
                have h2 : ape a0 1 = 0 := by unfold ape; split <;> simp <;> omega
                clear hin
                go_wp2_with (first | (go_at_call 21; refine (operators_any _).mono ?_; rintro e w2 ⟨g2, cap2, rfl, hg2, hc2, hf2, hb2⟩; have HB2 := HB.trans (hb2.mono HB.size); have d0 := hc2 0 (by omega); clear hg2 hc2 hf2 hb2))
                go_ret
                exact ⟨by simp, HB2⟩
              · have h1 : hasB a0 16 = false := by unfold hasB; simp; omega
                have h2 : ape a0 1 = 7 := by unfold ape; rw [if_neg (by omega), if_neg (by omega)]
                clear hin
                go_wp2_with (first | (go_at_call 21; refine (operators_any _).mono ?_; rintro e w2 ⟨g2, cap2, rfl, hg2, hc2, hf2, hb2⟩; have HB2 := HB.trans (hb2.mono HB.size); have d0 := hc2 0 (by omega); clear hg2 hc2 hf2 hb2))
                go_ret
                exact ⟨by simp, HB2⟩


set_option maxRecDepth 100000 in
theorem lifted (os : Os) (started : os.Started) (H : Type) (enc : TypeId × Value → H) :
    ReturnsInHanded {} Try.checked os 9 .any (Rows.arithOperatorsSpec.pre6 enc Try.prog Try.f9 Rows.arithOperatorsRow.domain false) (Rows.arithOperatorsSpec.post enc Try.prog Try.f9 false true false false) := by
  refine returnsInHanded_of_change (C := Try.checked) own started (by kernel_rfl) Try.func9
    (ChangeSpec.witness6 (enc := enc) (C := Try.checked) false ⟨#[], #[.int .u8 0], []⟩ 8 (by kernel_rfl) (by kernel_rfl) (by kernel_rfl) (by kernel_rfl)) ?_
  intro W base args ds gs before hval0 hW hcnd _
  have hval : ∀ (j : Nat) t v, Try.f9.params[j]? = some t → args[j]? = some v → Value.okWide Try.prog W .any base t v := hval0
  have hW' := hW
  obtain ⟨p, q, hA0, hV, rfl, hfz, hnd⟩ := hW
  have hA : DataW.TrodAll enc Try.prog W 0 (fun _ => true) true Try.f9.params.toList args.toList ds p := hA0
  rw [Try.params9] at hA hval
  obtain ⟨v0, vs0, d0, ds0, p0, q0, hargs, rfl, rfl, h0, r0⟩ := trodAll_cons hA
  obtain ⟨rfl, rfl, rfl⟩ := trodAll_nil r0
  obtain rfl : args = #[v0] := by cases args; simp_all
  obtain ⟨rfl, rfl⟩ := trodVars_none hV
  obtain ⟨a0, rfl, rfl, rfl, w0⟩ := open_int Try.underlying5 (hval 0 5 v0 rfl rfl) h0
  clear hA0 hval0
  refine (walk a0 W w0).mono fun e W' ⟨he, bel⟩ => ?_
  subst he
  exact ⟨_, rfl, _, _, _, [], _, [], hW', trodAll_mk1 (shut_bool Try.underlying4 _), (trodAll_cons_mk (shut_int Try.underlying5 w0) trodAll_mk0), rfl, bel.frame _, fun h => by cases h⟩

theorem over : Rows.arithOperatorsRow.holds Try.pinned (OpenSpec.ofChange Rows.arithOperatorsSpec) :=
  OpenClaim.holds_of_wide 9 Try.f9 rfl rfl rfl rfl rfl rfl rfl ⟨rfl, rfl, rfl, rfl, rfl⟩ rfl rfl rfl rfl rfl (by kernel_rfl) Try.func9 (by kernel_rfl)
    (of_decide_eq_true (by kernel_rfl)) (by unfold Func.isWrapper; first | (rw [if_pos (by decide +kernel)]; kernel_rfl) | (rw [if_neg (by decide +kernel)]; exact ⟨rfl, rfl⟩))
    (fun os started H enc _ => lifted os started H enc)

theorem proved : Rows.ArithOperatorsSaid := over
#print axioms proved
end Go.Proofs.Ytbelacajpbmhdaa.arithOperators
