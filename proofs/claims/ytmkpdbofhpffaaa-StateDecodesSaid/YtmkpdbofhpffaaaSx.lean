/- Calls that are given a pointer into one box. -/
import Derived.Test.YtmkpdbofhpffaaaRe
namespace Go.Proofs.Ytmkpdbofhpffaaa.Pv
open Go.RowKit
set_option linter.unusedSimpArgs false
set_option linter.unusedVariables false
theorem renB_no {m : Nat → Option Nat} {bx : Box} (h : bx.cells.all (noBoxB deep) = true) : renB m bx = bx := by
  obtain ⟨sz, cs, st⟩ := bx
  unfold renB
  congr 1
  conv => rhs; rw [← List.map_id cs]
  exact List.map_congr_left fun c hc => noBox_ren _ _ (List.all_eq_true.1 h c hc)
/-- a call that is given a pointer into the box i, which it changes -/
theorem pcallv_ptr {C : Orc} {g i off : Nat} {more : List PV} {hp : List Box} {bx bx' : Box} {r : PV} (hs : C.sh g = true) (hm : more.all (noBoxB deep) = true) (hi : hp[i]? = some bx) (hb : bx.cells.all (noBoxB deep) = true) (hb' : bx'.cells.all (noBoxB deep) = true) (hr : noBoxB deep r = true)
    (hc : C.shr g (.ptr 0 off :: more) [bx] = some (r, [bx'])) : pcallv C (.fn g []) (.ptr i off :: more) hp = some (r, hp.set i bx') := by
  have hm' := List.all_eq_true.1 hm
  have hlt : i < hp.length := (List.getElem?_eq_some_iff.1 hi).1
  unfold pcallv psub
  simp only [List.append_nil]
  rw [if_pos hs, if_neg (by simp [noBoxB, deep])]
  have e1 : (PV.ptr i off :: more).flatMap (boxesIn deep) = [i] := by
    rw [List.flatMap_cons, List.flatMap_eq_nil_iff.2 (fun c hc => noBox_in _ _ (hm' c hc))]; rfl
  have eb : bx.cells.flatMap (boxesIn deep) = [] := List.flatMap_eq_nil_iff.2 (fun c hc => noBox_in _ _ (List.all_eq_true.1 hb c hc))
  rw [e1, reach_one hi eb 9998]
  unfold psubI
  have e2 : (nodB [i] && [i].all fun i => Nat.blt i hp.length) = true := by simp [nodB, Nat.blt]; omega
  rw [e2]
  have e3 : (PV.ptr i off :: more).map (ren (posIn [i]) deep) = .ptr 0 off :: more := by
    rw [List.map_cons]
    congr 1
    · show (match posIn [i] i with | some j => PV.ptr j off | none => PV.any) = _
      rw [posIn_self]
    · conv => rhs; rw [← List.map_id more]
      exact List.map_congr_left fun c hc => noBox_ren _ _ (hm' c hc)
  have e4 : pick hp [i] = [bx] := by
    unfold pick
    simp only [List.map_cons, List.map_nil, hi, renB_no hb]
  rw [e3, e4]
  simp only [hc]
  have e5 : Nat.ble [i].length [bx'].length = true := rfl
  rw [e5]
  simp only [setAll, renB_no hb', List.map_nil, List.append_nil]
  rw [noBox_ren _ _ hr]
theorem pslice_hi {P : Program} {T E : TypeId} {sz : Nat} {es : List PV} {k : IntKind} {n : Int} {hp : List Box} (hT : P.underlying T = some (.slice E)) (hs : szT P E = some sz) (h0 : 0 ≤ n) (h : n ≤ es.length) : (pslice P T (.lst sz es) none (some (.int k n)) none).map (fun v => (v, hp)) = some (.lst sz (es.take n.toNat), hp) := by
  unfold pslice PV.un
  rw [hT]
  simp only [bnd]
  rw [if_pos h0]
  simp only
  rw [if_pos ⟨Nat.zero_le _, by omega, hs⟩]
  rfl
theorem pslice_lo {P : Program} {T E : TypeId} {sz : Nat} {es : List PV} {k : IntKind} {n : Int} {hp : List Box} (hT : P.underlying T = some (.slice E)) (hs : szT P E = some sz) (h0 : 0 ≤ n) (h : n ≤ es.length) : (pslice P T (.lst sz es) (some (.int k n)) none none).map (fun v => (v, hp)) = some (.lst sz (es.drop n.toNat), hp) := by
  unfold pslice PV.un
  rw [hT]
  simp only [bnd]
  rw [if_pos h0]
  simp only
  rw [if_pos ⟨by omega, Nat.le_refl _, hs⟩]
  simp
theorem or_low {w : Nat} (hw : 8 ≤ w) (a c : Int) (hc : 0 ≤ c ∧ c < 256) : ((BitVec.ofInt w (a * 256) ||| BitVec.ofInt w c).toNat : Int) = (a * 256 + c) % ((2 ^ w : Nat) : Int) := by
  have h1 : (BitVec.ofInt w (a * 256) ||| BitVec.ofInt w c) = BitVec.ofInt w (a * 256) + BitVec.ofInt w c := by
    refine (BitVec.add_eq_or_of_and_eq_zero _ _ ?_).symm
    apply BitVec.eq_of_getLsbD_eq
    intro i hi
    rw [BitVec.getLsbD_and, BitVec.getLsbD_zero]
    rcases Nat.lt_or_ge i 8 with h8 | h8
    · have : (BitVec.ofInt w (a * 256)) = (BitVec.ofInt w a) <<< 8 := by
        rw [BitVec.ofInt_mul, BitVec.shiftLeft_eq_mul_twoPow]
        congr 1
        apply BitVec.eq_of_toNat_eq
        simp [BitVec.toNat_twoPow]
      rw [this, BitVec.getLsbD_shiftLeft]
      simp [h8]
    · have : (BitVec.ofInt w c).getLsbD i = false := by
        have e : BitVec.ofInt w c = BitVec.ofNat w c.toNat := by
          rw [← BitVec.ofInt_natCast]; congr 1; omega
        rw [e, BitVec.getLsbD_ofNat]
        have : c.toNat.testBit i = false := Nat.testBit_lt_two_pow (Nat.lt_of_lt_of_le (by omega : c.toNat < 2 ^ 8) (Nat.pow_le_pow_right (by decide) h8))
        simp [this]
      simp [this]
  rw [h1, ← BitVec.ofInt_add, BitVec.toNat_ofInt, Int.toNat_of_nonneg (Int.emod_nonneg _ (by have : 0 < 2 ^ w := Nat.pow_pos (by decide); omega))]
theorem or64 (a c : Int) (hc : 0 ≤ c ∧ c < 256) : IntKind.wrap .i64 (((BitVec.ofInt 64 (IntKind.wrap .i64 (IntKind.wrap .i64 a * 256)) ||| BitVec.ofInt 64 (IntKind.wrap .i64 c)).toNat : Nat) : Int) = IntKind.wrap .i64 (a * 256 + c) := by
  have e1 : BitVec.ofInt 64 (IntKind.wrap .i64 (IntKind.wrap .i64 a * 256)) = BitVec.ofInt 64 (a * 256) := by
    apply BitVec.eq_of_toNat_eq
    rw [BitVec.toNat_ofInt, BitVec.toNat_ofInt]
    congr 1
    simp only [IntKind.wrap_i64]
    show _ % 18446744073709551616 = _ % 18446744073709551616
    omega
  have e2 : IntKind.wrap .i64 c = c := by rw [IntKind.wrap_i64]; omega
  rw [e1, e2, or_low (by decide) a c hc]
  simp only [IntKind.wrap_i64]
  show (_ % 18446744073709551616 + _) % _ - _ = _
  omega
theorem oru64 (a c : Int) (hc : 0 ≤ c ∧ c < 256) : IntKind.wrap .u64 (((BitVec.ofInt 64 (IntKind.wrap .u64 (IntKind.wrap .u64 a * 256)) ||| BitVec.ofInt 64 (IntKind.wrap .u64 c)).toNat : Nat) : Int) = IntKind.wrap .u64 (a * 256 + c) := by
  have e1 : BitVec.ofInt 64 (IntKind.wrap .u64 (IntKind.wrap .u64 a * 256)) = BitVec.ofInt 64 (a * 256) := by
    apply BitVec.eq_of_toNat_eq
    rw [BitVec.toNat_ofInt, BitVec.toNat_ofInt]
    congr 1
    simp only [IntKind.wrap_u64]
    show _ % 18446744073709551616 = _ % 18446744073709551616
    omega
  have e2 : IntKind.wrap .u64 c = c := by rw [IntKind.wrap_u64]; omega
  rw [e1, e2, or_low (by decide) a c hc]
  simp only [IntKind.wrap_u64]
  show (_ % 18446744073709551616) % _ = _
  omega
end Go.Proofs.Ytmkpdbofhpffaaa.Pv
