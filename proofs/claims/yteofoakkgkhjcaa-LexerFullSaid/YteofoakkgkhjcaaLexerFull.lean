/- LexerFull answers true for every byte and every number of further bytes, and changes nothing that existed; no conditions. -/
import Derived.Test.YteofoakkgkhjcaaRows
import Derived.WalkKit
import Derived.ProofKit
import Derived.OpenShut
import Derived.ShutString
import Derived.ChangeOld
import Derived.Below
import Derived.Test.YteofoakkgkhjcaaSeam
import Derived.Lib.Hide
import Derived.WalkSmall
import Derived.WalkSpells
import Derived.WalkLawsBesides
import Derived.IntWalk
import Derived.Outline
import Derived.Deep.RegionWith
import Derived.Deep.OwnRows
import Derived.Laws.BytesArg
import Derived.Deep.QuietTactic
import Derived.BigQuiet
namespace Go.Proofs.Yteofoakkgkhjcaa.lexerFull
open Go.ChangeShapes Go.WideShapes Go.ChangeAt Go.RowKit
open Go.ChangeMaps (open_string shut_string)
set_option linter.unusedSimpArgs false
set_option linter.unusedVariables false

theorem own : ownKnob Try.prog.godebug = none := by kernel_rfl
theorem laidOut : laidOutB Try.prog = true := by kernel_rfl

theorem runN_rep (n : Nat) : runN isS (List.replicate n 32) = n := by
  induction n with
  | zero => rfl
  | succ n ih =>
    unfold runN at *
    rw [List.replicate_succ, List.takeWhile_cons, if_pos (by decide), List.length_cons, ih]
theorem lex_spaces (n : Nat) (hn : 0 < n) : lexR (List.replicate n 32) 0 = ([⟨4, List.replicate n 32, 0⟩], none) := by
  have hne : List.replicate n (32 : UInt8) ≠ [] := fun e => by
    have := congrArg List.length e
    rw [List.length_replicate] at this; simp at this; omega
  have hh : (List.replicate n (32 : UInt8)).headD 0 = 32 := by
    match n, hn with
    | n + 1, _ => rw [List.replicate_succ]; rfl
  obtain ⟨f1, f2⟩ := fst_spaces (l := List.replicate n 32) (by rw [hh]; decide)
  have f3 : (List.replicate n (32 : UInt8)).length = n := List.length_replicate
  rw [lexR_cons hne 0 (by rw [f1, runN_rep]; omega), f1, runN_rep, f2]
  conv => lhs; rw [List.take_of_length_le (by omega), List.drop_eq_nil_of_le (by omega), lexR_nil]
set_option maxHeartbeats 400000 in
theorem lex_long (s : ByteArray) (w : World) (hs : 65536 < s.size) : Calls Try.prog 13 #[.string s] w fun e w' => e = .returned (.tuple #[.slice none 0 0, .int .i64 0, .int .i64 5]) ∧ Below w.heap.size w w' := by
  have hd : decide ((65536 : Int) < (s.size : Int)) = true := by simp; omega
  have hd2 : (65536 : Int) < (s.size : Int) := by omega
  go_enter Try.func13, Try.ntmps13
  go_wp2
  go_ret3
  exact ⟨rfl, Below.refl _ _⟩
theorem Try.info5 : (Try.prog.info? 5).map (fun i => (i.zero, i.size, i.bytes)) = some (some (.int .u8 0), 1, 1) := by kernel_rfl

set_option maxRecDepth 100000 in
set_option maxHeartbeats 1000000 in
theorem walk (a0 : Int) (a1 : Int) (w : World) (w0 : (Lit.int .u8 a0).wf = true) (w1 : (Lit.int .u8 a1).wf = true) :
    Calls Try.prog 10 #[.int .u8 a0, .int .u8 a1] w fun e w' => e = .returned (.bool true) ∧ Below w.heap.size w w' := by
  have HW : Below w.heap.size w w := Below.refl _ _
  have r1 := bounds_u8 w1
  obtain ⟨m, rfl⟩ : ∃ m : Nat, a1 = (m : Int) := ⟨a1.toNat, by omega⟩
  have hm : m ≤ 255 := by omega
  clear r1
  obtain ⟨n, hn⟩ : ∃ n, n = 65537 + m := ⟨_, rfl⟩
  obtain ⟨N, hN⟩ : ∃ N, N = 65536 := ⟨_, rfl⟩
  have hsum2 : (65537 : Int) + (m : Int) = (n : Int) := by omega
  have hmk := fun w => @run_make_row' Try.prog 42 5 (.int .u8 0) 1 Try.underlying42 Try.info5 rfl .i64 .i64 n (by omega) (by omega) w
  have hmake : ∀ w, (Instr.makeSlice 42 (.int .i64 (65537 + (m : Int))) (.int .i64 (65537 + (m : Int)))).run Try.prog w = .ok (.slice (some ⟨w.heap.size, 0, none⟩) n n) (w.alloc (.cells (madeCells #[.int .u8 0] n) 5)) := fun w => by rw [hsum2]; exact hmk w
  have HN := Lib.hid hN
  have HNN := Lib.hid hn
  have hsum : IntKind.i64.wrap ((65537 : Int) + (m : Int)) = (65537 : Int) + (m : Int) := IntWalk.i64_in _ (by omega)
  have hnb : n ≤ 70000 := by omega
  clear hN hn hsum2 hmk
  go_enter Try.func10, Try.ntmps10
  go_wp2_with (go_at_call 12; refine (awake_any _).mono ?_; rintro e wa ⟨rfl, hb⟩; replace HW := below_on HW hb; clear hb)
  obtain ⟨g, hg⟩ : ∃ g, g = wa.heap.size := ⟨_, rfl⟩
  have HROW0 : Hid ((wa.alloc (.cells (madeCells #[.int .u8 0] n) 5)).rowIs g 5 n (fun j => .int .u8 (if j < 0 then 32 else 0))) := Lib.hid (by rw [hg]; exact (World.rowIs_made wa (.int .u8 0) n 5).congr fun i _ => by simp)
  have HB0 : Hid (Below wa.heap.size wa (wa.alloc (.cells (madeCells #[.int .u8 0] n) 5))) := Lib.hid ((Below.refl _ _).alloc (Nat.le_refl _) _)
  rw [← hg]
  have HGL : Hid (wa.heap.size ≤ g) := Lib.hid (by omega)
  clear hg
  clear hmake hsum
  go_loopw [6] (fun i wr => ∃ k : Nat, k ≤ n ∧ i = .int .i64 k ∧ Hid (wr.rowIs g 5 n (fun j => .int .u8 (if j < k then 32 else 0))) ∧ Hid (Below wa.heap.size wa wr)) (fun i _ => n - (intOf i).toNat)
  case atStart => exact ⟨0, by omega, rfl, HROW0, HB0⟩
  case round =>
    clear HROW0 HB0
    obtain ⟨k, hk, rfl, HR, HB⟩ := hrel
    by_cases hkl : k < n
    · have hc := HR.out.cell hkl
      have hf := HR.out.frozen k
      have hdl : (k : Int) < (n : Int) := by omega
      go_wp2
      go_roundw
      case rel =>
        refine ⟨k + 1, by omega, by go_num, Lib.hid ((HR.out.set k _).congr fun j hj => ?_), Lib.hid (HB.out.setCell (p := ⟨g, k, none⟩) HGL.out _)⟩
        by_cases h1 : j = k
        · subst h1; simp
        · rw [if_neg h1]
          by_cases h2 : j < k
          · rw [if_pos h2, if_pos (by omega)]
          · rw [if_neg h2, if_neg (by omega)]
      case measure => simp [intOf]; omega
    · obtain rfl : n = k := by omega
      have HR1 : Hid (wr.rowIs g 5 n (fun _ => .int .u8 32)) := Lib.hid (HR.out.congr fun j hj => by rw [if_pos hj])
      have hc0 := HR1.out.cell (i := 0) (by have := HNN.out; omega)
      have hf0 := HR1.out.frozen 0
      obtain ⟨S, hS⟩ : ∃ S, S = strOfNums (List.replicate N 32) := ⟨_, rfl⟩
      have hconv : ∀ dst, Try.prog.underlying dst = some .string → (convert 42 dst (.slice (some ⟨g, 0, none⟩) 65536 n)).run Try.prog wr = .ok (.string S) wr := by
        have := run_convert_bytes_arg (P := Try.prog) wr 42 5 Try.underlying42 Try.underlying5 g 0 N n (List.replicate N 32) List.length_replicate (fun i hi => by
          rw [Nat.zero_add, HR1.out.cell (by have := HN.out; have := HNN.out; omega)]
          rw [List.getD_eq_getElem?_getD, List.getElem?_replicate, if_pos hi]; rfl)
        rw [← hS] at this
        rw [← HN.out]
        exact this
      have hconv9 := hconv 9 Try.underlying9
      have hSD : S.data.toList = List.replicate N 32 := by
        rw [hS, strOfNums_data, List.map_replicate]; rfl
      have hSS : S.size ≤ 65536 := by rw [hS, strOfNums_size, List.length_replicate, HN.out]; exact Nat.le_refl _
      have HLEX : Hid (lexR S.data.toList 0 = ([⟨4, List.replicate N 32, 0⟩], none)) := Lib.hid (by rw [hSD]; exact lex_spaces N (by have := HN.out; omega))
      have HSS := Lib.hid hSS
      have HRW := HW.trans (HB.out.mono HW.size)
      have hn1 : (65536 : Int) ≤ (n : Int) := by have := HNN.out; omega
      have hn2 : 65536 ≤ n := by have := HNN.out; omega
      have hn3 : (0 : Int) < (n : Int) := by omega
      clear hSD hS hconv hSS HR
      go_wp2_with (first
        | (go_at_call_of 13 S; refine (lex_ok _ _ _ HSS.out HLEX.out (by simp)).mono ?_; rintro e w2 ⟨g2, cap2, rfl, -, -, -, hb⟩; replace HRW := below_on HRW hb; have HR2 := Lib.hid (HR1.out.of_block (hb.block g HR1.out.lt)); have hc2 := HR2.out.cell (i := 0) (by have := HNN.out; omega); have hf2 := HR2.out.frozen 0; have HR3 := Lib.hid (HR2.out.set 0 (.int .u8 a0)); obtain ⟨S2, hS2⟩ : ∃ S2, S2 = strOfNums ((List.range n).map fun j => if j = 0 then a0 else 32) := ⟨_, rfl⟩; have hconv2 := run_convert_bytes_arg (P := Try.prog) _ 42 5 Try.underlying42 Try.underlying5 g 0 n n ((List.range n).map fun j => if j = 0 then a0 else 32) (by simp) (fun i hi => by rw [Nat.zero_add, HR3.out.cell hi, List.getD_eq_getElem?_getD, List.getElem?_map, List.getElem?_range hi]; simp only [Option.map_some, Option.getD_some]; split <;> rfl) 9 Try.underlying9; rw [← hS2] at hconv2; have HS2 : Hid (65536 < S2.size) := Lib.hid (by rw [hS2, strOfNums_size, List.length_map, List.length_range]; have := HNN.out; omega); clear hS2 hb hconv9 hc0 hf0 HR2 HR3)
        | (go_at_call_of 13 S2; refine (lex_long _ _ HS2.out).mono ?_; rintro e w3 ⟨rfl, hb⟩; replace HRW := below_on (HRW.setCell (p := ⟨g, 0, none⟩) (Nat.le_trans HW.size HGL.out) _) hb; clear hb))
      refine bodyPost_ret (v := .bool true) (by simp [results, Try.results10, go_sem]) rfl ?_
      exact ⟨rfl, HRW⟩

set_option maxRecDepth 100000 in
theorem lifted (os : Os) (started : os.Started) (H : Type) (enc : TypeId × Value → H) :
    ReturnsInHanded {} Try.checked os 10 .any (Rows.lexerFullSpec.pre6 enc Try.prog Try.f10 Rows.lexerFullRow.domain false) (Rows.lexerFullSpec.post enc Try.prog Try.f10 false true false false) := by
  refine returnsInHanded_of_change (C := Try.checked) own started (by kernel_rfl) Try.func10
    (ChangeSpec.witness6 (enc := enc) (C := Try.checked) false ⟨#[], #[.int .u8 0, .int .u8 0], []⟩ 8 (by kernel_rfl) (by kernel_rfl) (by kernel_rfl) (by kernel_rfl)) ?_
  intro W base args ds gs before hval0 hW hcnd _
  have hval : ∀ (j : Nat) t v, Try.f10.params[j]? = some t → args[j]? = some v → Value.okWide Try.prog W .any base t v := hval0
  have hW' := hW
  obtain ⟨p, q, hA0, hV, rfl, hfz, hnd⟩ := hW
  have hA : DataW.TrodAll enc Try.prog W 0 (fun _ => true) true Try.f10.params.toList args.toList ds p := hA0
  rw [Try.params10] at hA hval
  obtain ⟨v0, vs0, d0, ds0, p0, q0, hargs, rfl, rfl, h0, r0⟩ := trodAll_cons hA
  obtain ⟨v1, vs1, d1, ds1, p1, q1, rfl, rfl, rfl, h1, r1⟩ := trodAll_cons r0
  obtain ⟨rfl, rfl, rfl⟩ := trodAll_nil r1
  obtain rfl : args = #[v0, v1] := by cases args; simp_all
  obtain ⟨rfl, rfl⟩ := trodVars_none hV
  obtain ⟨a0, rfl, rfl, rfl, w0⟩ := open_int Try.underlying5 (hval 0 5 v0 rfl rfl) h0
  obtain ⟨a1, rfl, rfl, rfl, w1⟩ := open_int Try.underlying5 (hval 1 5 v1 rfl rfl) h1
  clear hA0 hval0
  refine (walk a0 a1 W w0 w1).mono fun e W' ⟨he, bel⟩ => ?_
  subst he
  exact ⟨_, rfl, _, _, _, [], _, [], hW', trodAll_mk1 (shut_bool Try.underlying4 _), (trodAll_cons_mk (shut_int Try.underlying5 w0) (trodAll_cons_mk (shut_int Try.underlying5 w1) trodAll_mk0)), rfl, bel.frame _, fun h => by cases h⟩

theorem over : Rows.lexerFullRow.holds Try.pinned (OpenSpec.ofChange Rows.lexerFullSpec) :=
  OpenClaim.holds_of_wide 10 Try.f10 rfl rfl rfl rfl rfl rfl rfl ⟨rfl, rfl, rfl, rfl, rfl⟩ rfl rfl rfl rfl rfl (by kernel_rfl) Try.func10 (by kernel_rfl)
    (of_decide_eq_true (by kernel_rfl)) (by unfold Func.isWrapper; first | (rw [if_pos (by decide +kernel)]; kernel_rfl) | (rw [if_neg (by decide +kernel)]; exact ⟨rfl, rfl⟩))
    (fun os started H enc _ => lifted os started H enc)

theorem proved : Rows.LexerFullSaid := over
#print axioms proved
end Go.Proofs.Yteofoakkgkhjcaa.lexerFull
