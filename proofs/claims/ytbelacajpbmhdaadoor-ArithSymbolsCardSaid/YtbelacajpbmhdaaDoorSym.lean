/- Contracts of the functions that the law on symbols calls. -/
import Derived.Test.YtbelacajpbmhdaaDoorRows
import Derived.WalkKit
import Derived.ProofKit
import Derived.OpenShut
namespace Go.Proofs.YtbelacajpbmhdaaDoor
open Go.ChangeShapes Go.WideShapes Go.ChangeAt Go.RowKit
set_option linter.unusedSimpArgs false
set_option linter.unusedVariables false
theorem awake_any (w : World) : Calls Tryd.prog 4 #[] w fun e w' => e = .returned (.bool true) ∧ w = w' := by
  go_enter Tryd.func4, Tryd.ntmps4
  go_wp2
  go_ret
  exact ⟨rfl, rfl⟩
/-- the symbols, as lists of bytes -/
def symL : List (List UInt8) := [[], [], [], [], [], [], [45], [33], [43], [45], [42], [47], [37], [38], [124], [94], [61, 61], [33, 61], [60], [60, 61], [62], [62, 61], [38, 38], [124, 124], [], [], [], [], [], [], [], [], [], [], [], [], [], [], [], [], [43, 61], [45, 61], [94, 61]]
def symN (n : Nat) : ByteArray := ⟨(symL.getD n []).toArray⟩
def symB (k : Int) : ByteArray := symN k.toNat
theorem symB_none (k : Int) (h : k ≠ 6 ∧ k ≠ 7 ∧ k ≠ 8 ∧ k ≠ 9 ∧ k ≠ 10 ∧ k ≠ 11 ∧ k ≠ 12 ∧ k ≠ 13 ∧ k ≠ 14 ∧ k ≠ 15 ∧ k ≠ 16 ∧ k ≠ 17 ∧ k ≠ 18 ∧ k ≠ 19 ∧ k ≠ 20 ∧ k ≠ 21 ∧ k ≠ 22 ∧ k ≠ 23 ∧ k ≠ 40 ∧ k ≠ 41 ∧ k ≠ 42) (h0 : 0 ≤ k) : symB k = ⟨#[]⟩ := by
  unfold symB symN
  have hd : ∀ n : Nat, n < 43 → symL.getD n [] = [] ∨ n ∈ [6, 7, 8, 9, 10, 11, 12, 13, 14, 15, 16, 17, 18, 19, 20, 21, 22, 23, 40, 41, 42] := by decide
  have hl : symL.length = 43 := rfl
  by_cases hk : k.toNat < 43
  · rcases hd k.toNat hk with e | e
    · rw [e]
    · exfalso; simp only [List.mem_cons, List.not_mem_nil, or_false] at e; omega
  · have e : symL.getD k.toNat [] = [] := by rw [List.getD_eq_getElem?_getD, List.getElem?_eq_none (by omega)]; rfl
    rw [e]
theorem symbol_any (k : Int) (w : World) (h0 : 0 ≤ k ∧ k ≤ 255) (hL : ∀ n : Nat, n < 43 → w.cell? ⟨0, n, none⟩ = some (.string (symN n))) :
    Calls Tryd.prog 6 #[.int .u8 k] w fun e w' => e = .returned (.string (symB k)) ∧ w = w' := by
  obtain ⟨n, rfl⟩ : ∃ n : Nat, k = n := ⟨k.toNat, by omega⟩
  by_cases hk : n < 43
  · have c := hL n hk
    have hs : symB (n : Int) = symN n := by unfold symB; simp
    rw [hs]
    clear hL hs
    go_enter Tryd.func6, Tryd.ntmps6
    go_wp2
    go_ret
    exact ⟨rfl, rfl⟩
  · have hs : symB (n : Int) = ⟨#[]⟩ := symB_none _ (by omega) (by omega)
    rw [hs]
    clear hL hs
    go_enter Tryd.func6, Tryd.ntmps6
    go_wp2
    go_ret
    exact ⟨rfl, rfl⟩
set_option maxHeartbeats 2000000 in
theorem refSymbol_any (k : Int) (w : World) (h0 : 0 ≤ k) : Calls Tryd.prog 7 #[.int .u8 k] w fun e w' => e = .returned (.string (symB k)) ∧ w = w' := by
  by_cases h6 : k = 6
  · subst h6
    have hs : symB 6 = ⟨#[45]⟩ := rfl
    rw [hs]; clear hs
    go_enter Tryd.func7, Tryd.ntmps7; go_wp2; go_ret; exact ⟨rfl, rfl⟩
  by_cases h7 : k = 7
  · subst h7
    have hs : symB 7 = ⟨#[33]⟩ := rfl
    rw [hs]; clear hs
    go_enter Tryd.func7, Tryd.ntmps7; go_wp2; go_ret; exact ⟨rfl, rfl⟩
  by_cases h8 : k = 8
  · subst h8
    have hs : symB 8 = ⟨#[43]⟩ := rfl
    rw [hs]; clear hs
    go_enter Tryd.func7, Tryd.ntmps7; go_wp2; go_ret; exact ⟨rfl, rfl⟩
  by_cases h9 : k = 9
  · subst h9
    have hs : symB 9 = ⟨#[45]⟩ := rfl
    rw [hs]; clear hs
    go_enter Tryd.func7, Tryd.ntmps7; go_wp2; go_ret; exact ⟨rfl, rfl⟩
  by_cases h10 : k = 10
  · subst h10
    have hs : symB 10 = ⟨#[42]⟩ := rfl
    rw [hs]; clear hs
    go_enter Tryd.func7, Tryd.ntmps7; go_wp2; go_ret; exact ⟨rfl, rfl⟩
  by_cases h11 : k = 11
  · subst h11
    have hs : symB 11 = ⟨#[47]⟩ := rfl
    rw [hs]; clear hs
    go_enter Tryd.func7, Tryd.ntmps7; go_wp2; go_ret; exact ⟨rfl, rfl⟩
  by_cases h12 : k = 12
  · subst h12
    have hs : symB 12 = ⟨#[37]⟩ := rfl
    rw [hs]; clear hs
    go_enter Tryd.func7, Tryd.ntmps7; go_wp2; go_ret; exact ⟨rfl, rfl⟩
  by_cases h13 : k = 13
  · subst h13
    have hs : symB 13 = ⟨#[38]⟩ := rfl
    rw [hs]; clear hs
    go_enter Tryd.func7, Tryd.ntmps7; go_wp2; go_ret; exact ⟨rfl, rfl⟩
  by_cases h14 : k = 14
  · subst h14
    have hs : symB 14 = ⟨#[124]⟩ := rfl
    rw [hs]; clear hs
    go_enter Tryd.func7, Tryd.ntmps7; go_wp2; go_ret; exact ⟨rfl, rfl⟩
  by_cases h15 : k = 15
  · subst h15
    have hs : symB 15 = ⟨#[94]⟩ := rfl
    rw [hs]; clear hs
    go_enter Tryd.func7, Tryd.ntmps7; go_wp2; go_ret; exact ⟨rfl, rfl⟩
  by_cases h16 : k = 16
  · subst h16
    have hs : symB 16 = ⟨#[61, 61]⟩ := rfl
    rw [hs]; clear hs
    go_enter Tryd.func7, Tryd.ntmps7; go_wp2; go_ret; exact ⟨rfl, rfl⟩
  by_cases h17 : k = 17
  · subst h17
    have hs : symB 17 = ⟨#[33, 61]⟩ := rfl
    rw [hs]; clear hs
    go_enter Tryd.func7, Tryd.ntmps7; go_wp2; go_ret; exact ⟨rfl, rfl⟩
  by_cases h18 : k = 18
  · subst h18
    have hs : symB 18 = ⟨#[60]⟩ := rfl
    rw [hs]; clear hs
    go_enter Tryd.func7, Tryd.ntmps7; go_wp2; go_ret; exact ⟨rfl, rfl⟩
  by_cases h19 : k = 19
  · subst h19
    have hs : symB 19 = ⟨#[60, 61]⟩ := rfl
    rw [hs]; clear hs
    go_enter Tryd.func7, Tryd.ntmps7; go_wp2; go_ret; exact ⟨rfl, rfl⟩
  by_cases h20 : k = 20
  · subst h20
    have hs : symB 20 = ⟨#[62]⟩ := rfl
    rw [hs]; clear hs
    go_enter Tryd.func7, Tryd.ntmps7; go_wp2; go_ret; exact ⟨rfl, rfl⟩
  by_cases h21 : k = 21
  · subst h21
    have hs : symB 21 = ⟨#[62, 61]⟩ := rfl
    rw [hs]; clear hs
    go_enter Tryd.func7, Tryd.ntmps7; go_wp2; go_ret; exact ⟨rfl, rfl⟩
  by_cases h22 : k = 22
  · subst h22
    have hs : symB 22 = ⟨#[38, 38]⟩ := rfl
    rw [hs]; clear hs
    go_enter Tryd.func7, Tryd.ntmps7; go_wp2; go_ret; exact ⟨rfl, rfl⟩
  by_cases h23 : k = 23
  · subst h23
    have hs : symB 23 = ⟨#[124, 124]⟩ := rfl
    rw [hs]; clear hs
    go_enter Tryd.func7, Tryd.ntmps7; go_wp2; go_ret; exact ⟨rfl, rfl⟩
  by_cases h40 : k = 40
  · subst h40
    have hs : symB 40 = ⟨#[43, 61]⟩ := rfl
    rw [hs]; clear hs
    go_enter Tryd.func7, Tryd.ntmps7; go_wp2; go_ret; exact ⟨rfl, rfl⟩
  by_cases h41 : k = 41
  · subst h41
    have hs : symB 41 = ⟨#[45, 61]⟩ := rfl
    rw [hs]; clear hs
    go_enter Tryd.func7, Tryd.ntmps7; go_wp2; go_ret; exact ⟨rfl, rfl⟩
  by_cases h42 : k = 42
  · subst h42
    have hs : symB 42 = ⟨#[94, 61]⟩ := rfl
    rw [hs]; clear hs
    go_enter Tryd.func7, Tryd.ntmps7; go_wp2; go_ret; exact ⟨rfl, rfl⟩
  have hs : symB k = ⟨#[]⟩ := symB_none _ (by omega) h0
  rw [hs]; clear hs
  go_enter Tryd.func7, Tryd.ntmps7; go_wp2; go_ret; exact ⟨rfl, rfl⟩
def lev (k : Int) : Int := if k = 23 then 1 else if k = 22 then 2 else if k = 14 then 3 else if k = 15 then 4 else if k = 13 then 5 else if 16 ≤ k ∧ k ≤ 21 then 6 else if k = 8 ∨ k = 9 then 7 else if 10 ≤ k ∧ k ≤ 12 then 8 else if k = 6 ∨ k = 7 then 9 else 0
set_option maxHeartbeats 2000000 in
theorem level_any (k : Int) (w : World) : Calls Tryd.prog 8 #[.int .u8 k] w fun e w' => e = .returned (.int .i64 (lev k)) ∧ w = w' := by
  by_cases h6 : k = 6
  · subst h6; have hs : lev 6 = lev 6 := rfl; go_enter Tryd.func8, Tryd.ntmps8; go_wp2; go_ret; exact ⟨by simp [lev], rfl⟩
  by_cases h7 : k = 7
  · subst h7; have hs : lev 7 = lev 7 := rfl; go_enter Tryd.func8, Tryd.ntmps8; go_wp2; go_ret; exact ⟨by simp [lev], rfl⟩
  by_cases h8 : k = 8
  · subst h8; have hs : lev 8 = lev 8 := rfl; go_enter Tryd.func8, Tryd.ntmps8; go_wp2; go_ret; exact ⟨by simp [lev], rfl⟩
  by_cases h9 : k = 9
  · subst h9; have hs : lev 9 = lev 9 := rfl; go_enter Tryd.func8, Tryd.ntmps8; go_wp2; go_ret; exact ⟨by simp [lev], rfl⟩
  by_cases h10 : k = 10
  · subst h10; have hs : lev 10 = lev 10 := rfl; go_enter Tryd.func8, Tryd.ntmps8; go_wp2; go_ret; exact ⟨by simp [lev], rfl⟩
  by_cases h11 : k = 11
  · subst h11; have hs : lev 11 = lev 11 := rfl; go_enter Tryd.func8, Tryd.ntmps8; go_wp2; go_ret; exact ⟨by simp [lev], rfl⟩
  by_cases h12 : k = 12
  · subst h12; have hs : lev 12 = lev 12 := rfl; go_enter Tryd.func8, Tryd.ntmps8; go_wp2; go_ret; exact ⟨by simp [lev], rfl⟩
  by_cases h13 : k = 13
  · subst h13; have hs : lev 13 = lev 13 := rfl; go_enter Tryd.func8, Tryd.ntmps8; go_wp2; go_ret; exact ⟨by simp [lev], rfl⟩
  by_cases h14 : k = 14
  · subst h14; have hs : lev 14 = lev 14 := rfl; go_enter Tryd.func8, Tryd.ntmps8; go_wp2; go_ret; exact ⟨by simp [lev], rfl⟩
  by_cases h15 : k = 15
  · subst h15; have hs : lev 15 = lev 15 := rfl; go_enter Tryd.func8, Tryd.ntmps8; go_wp2; go_ret; exact ⟨by simp [lev], rfl⟩
  by_cases h16 : k = 16
  · subst h16; have hs : lev 16 = lev 16 := rfl; go_enter Tryd.func8, Tryd.ntmps8; go_wp2; go_ret; exact ⟨by simp [lev], rfl⟩
  by_cases h17 : k = 17
  · subst h17; have hs : lev 17 = lev 17 := rfl; go_enter Tryd.func8, Tryd.ntmps8; go_wp2; go_ret; exact ⟨by simp [lev], rfl⟩
  by_cases h18 : k = 18
  · subst h18; have hs : lev 18 = lev 18 := rfl; go_enter Tryd.func8, Tryd.ntmps8; go_wp2; go_ret; exact ⟨by simp [lev], rfl⟩
  by_cases h19 : k = 19
  · subst h19; have hs : lev 19 = lev 19 := rfl; go_enter Tryd.func8, Tryd.ntmps8; go_wp2; go_ret; exact ⟨by simp [lev], rfl⟩
  by_cases h20 : k = 20
  · subst h20; have hs : lev 20 = lev 20 := rfl; go_enter Tryd.func8, Tryd.ntmps8; go_wp2; go_ret; exact ⟨by simp [lev], rfl⟩
  by_cases h21 : k = 21
  · subst h21; have hs : lev 21 = lev 21 := rfl; go_enter Tryd.func8, Tryd.ntmps8; go_wp2; go_ret; exact ⟨by simp [lev], rfl⟩
  by_cases h22 : k = 22
  · subst h22; have hs : lev 22 = lev 22 := rfl; go_enter Tryd.func8, Tryd.ntmps8; go_wp2; go_ret; exact ⟨by simp [lev], rfl⟩
  by_cases h23 : k = 23
  · subst h23; have hs : lev 23 = lev 23 := rfl; go_enter Tryd.func8, Tryd.ntmps8; go_wp2; go_ret; exact ⟨by simp [lev], rfl⟩
  have hs : lev k = 0 := by unfold lev; repeat (rw [if_neg (by omega)])
  rw [hs]; clear hs
  go_enter Tryd.func8, Tryd.ntmps8; go_wp2; go_ret; exact ⟨rfl, rfl⟩
set_option maxHeartbeats 2000000 in
theorem refLevel_any (k : Int) (w : World) : Calls Tryd.prog 9 #[.int .u8 k] w fun e w' => e = .returned (.int .i64 (lev k)) ∧ w = w' := by
  by_cases h6 : k = 6
  · subst h6; have hs : lev 6 = lev 6 := rfl; go_enter Tryd.func9, Tryd.ntmps9; go_wp2; go_ret; exact ⟨by simp [lev], rfl⟩
  by_cases h7 : k = 7
  · subst h7; have hs : lev 7 = lev 7 := rfl; go_enter Tryd.func9, Tryd.ntmps9; go_wp2; go_ret; exact ⟨by simp [lev], rfl⟩
  by_cases h8 : k = 8
  · subst h8; have hs : lev 8 = lev 8 := rfl; go_enter Tryd.func9, Tryd.ntmps9; go_wp2; go_ret; exact ⟨by simp [lev], rfl⟩
  by_cases h9 : k = 9
  · subst h9; have hs : lev 9 = lev 9 := rfl; go_enter Tryd.func9, Tryd.ntmps9; go_wp2; go_ret; exact ⟨by simp [lev], rfl⟩
  by_cases h10 : k = 10
  · subst h10; have hs : lev 10 = lev 10 := rfl; go_enter Tryd.func9, Tryd.ntmps9; go_wp2; go_ret; exact ⟨by simp [lev], rfl⟩
  by_cases h11 : k = 11
  · subst h11; have hs : lev 11 = lev 11 := rfl; go_enter Tryd.func9, Tryd.ntmps9; go_wp2; go_ret; exact ⟨by simp [lev], rfl⟩
  by_cases h12 : k = 12
  · subst h12; have hs : lev 12 = lev 12 := rfl; go_enter Tryd.func9, Tryd.ntmps9; go_wp2; go_ret; exact ⟨by simp [lev], rfl⟩
  by_cases h13 : k = 13
  · subst h13; have hs : lev 13 = lev 13 := rfl; go_enter Tryd.func9, Tryd.ntmps9; go_wp2; go_ret; exact ⟨by simp [lev], rfl⟩
  by_cases h14 : k = 14
  · subst h14; have hs : lev 14 = lev 14 := rfl; go_enter Tryd.func9, Tryd.ntmps9; go_wp2; go_ret; exact ⟨by simp [lev], rfl⟩
  by_cases h15 : k = 15
  · subst h15; have hs : lev 15 = lev 15 := rfl; go_enter Tryd.func9, Tryd.ntmps9; go_wp2; go_ret; exact ⟨by simp [lev], rfl⟩
  by_cases h16 : k = 16
  · subst h16; have hs : lev 16 = lev 16 := rfl; go_enter Tryd.func9, Tryd.ntmps9; go_wp2; go_ret; exact ⟨by simp [lev], rfl⟩
  by_cases h17 : k = 17
  · subst h17; have hs : lev 17 = lev 17 := rfl; go_enter Tryd.func9, Tryd.ntmps9; go_wp2; go_ret; exact ⟨by simp [lev], rfl⟩
  by_cases h18 : k = 18
  · subst h18; have hs : lev 18 = lev 18 := rfl; go_enter Tryd.func9, Tryd.ntmps9; go_wp2; go_ret; exact ⟨by simp [lev], rfl⟩
  by_cases h19 : k = 19
  · subst h19; have hs : lev 19 = lev 19 := rfl; go_enter Tryd.func9, Tryd.ntmps9; go_wp2; go_ret; exact ⟨by simp [lev], rfl⟩
  by_cases h20 : k = 20
  · subst h20; have hs : lev 20 = lev 20 := rfl; go_enter Tryd.func9, Tryd.ntmps9; go_wp2; go_ret; exact ⟨by simp [lev], rfl⟩
  by_cases h21 : k = 21
  · subst h21; have hs : lev 21 = lev 21 := rfl; go_enter Tryd.func9, Tryd.ntmps9; go_wp2; go_ret; exact ⟨by simp [lev], rfl⟩
  by_cases h22 : k = 22
  · subst h22; have hs : lev 22 = lev 22 := rfl; go_enter Tryd.func9, Tryd.ntmps9; go_wp2; go_ret; exact ⟨by simp [lev], rfl⟩
  by_cases h23 : k = 23
  · subst h23; have hs : lev 23 = lev 23 := rfl; go_enter Tryd.func9, Tryd.ntmps9; go_wp2; go_ret; exact ⟨by simp [lev], rfl⟩
  have hs : lev k = 0 := by unfold lev; repeat (rw [if_neg (by omega)])
  rw [hs]; clear hs
  go_enter Tryd.func9, Tryd.ntmps9; go_wp2; go_ret; exact ⟨rfl, rfl⟩
def ivk (k : Int) : Int := if k = 40 then 41 else if k = 41 then 40 else if k = 42 then 42 else 0
def ivo (k : Int) : Bool := decide (k = 40 ∨ k = 41 ∨ k = 42)
theorem inverse_any (k : Int) (w : World) : Calls Tryd.prog 5 #[.int .u8 k] w fun e w' => e = .returned (.tuple #[.int .u8 (ivk k), .bool (ivo k)]) ∧ w = w' := by
  by_cases h40 : k = 40
  · subst h40; go_enter Tryd.func5, Tryd.ntmps5; go_wp2; go_ret2; exact ⟨by simp [ivk, ivo], rfl⟩
  by_cases h41 : k = 41
  · subst h41; go_enter Tryd.func5, Tryd.ntmps5; go_wp2; go_ret2; exact ⟨by simp [ivk, ivo], rfl⟩
  by_cases h42 : k = 42
  · subst h42; go_enter Tryd.func5, Tryd.ntmps5; go_wp2; go_ret2; exact ⟨by simp [ivk, ivo], rfl⟩
  go_enter Tryd.func5, Tryd.ntmps5; go_wp2; go_ret2; exact ⟨by simp [ivk, ivo, *], rfl⟩
theorem refInverse_any (k : Int) (w : World) : Calls Tryd.prog 10 #[.int .u8 k] w fun e w' => e = .returned (.int .u8 (ivk k)) ∧ w = w' := by
  by_cases h40 : k = 40
  · subst h40; go_enter Tryd.func10, Tryd.ntmps10; go_wp2; go_ret; exact ⟨by simp [ivk], rfl⟩
  by_cases h41 : k = 41
  · subst h41; go_enter Tryd.func10, Tryd.ntmps10; go_wp2; go_ret; exact ⟨by simp [ivk], rfl⟩
  by_cases h42 : k = 42
  · subst h42; go_enter Tryd.func10, Tryd.ntmps10; go_wp2; go_ret; exact ⟨by simp [ivk], rfl⟩
  go_enter Tryd.func10, Tryd.ntmps10; go_wp2; go_ret; exact ⟨by simp [ivk, *], rfl⟩
/-- an array of strings that reads as a list of strings holds them, cell for cell -/
theorem str_at {H : Type} {enc : TypeId × Value → H} {P : Program} {w : World} {base : Nat} {sp : Nat → Bool} {held : Bool} {fuel n : Nat} {t e : TypeId} {cs : List Value} {ds : List (DataW H)} {p : List MemPlace}
    (ht : P.underlying t = some (.array n e)) (he : P.underlying e = some .string) (hce : P.cellsOf e = 1)
    (h : DataW.trod enc P w base sp held fuel t cs = some (.agg ds, p)) (i : Nat) (b : List UInt8) (hi : ds[i]? = some (.lit (.string b))) : cs[i]? = some (.string ⟨b.toArray⟩) := by
  obtain ⟨xs, m, rfl, hx, hlen, hn, hel⟩ := DataW.trod_array ht h
  simp only [Prod.mk.injEq, DataW.agg.injEq] at hx
  obtain ⟨rfl, _⟩ := hx
  have hlt : i < xs.length := by
    rcases Nat.lt_or_ge i xs.length with h1 | h1
    · exact h1
    · rw [List.getElem?_eq_none (by simpa using h1)] at hi; cases hi
  have h1 := hel i (by omega)
  rw [hce, List.getElem?_eq_getElem hlt] at h1
  obtain ⟨s, hs, hd, _⟩ := DataW.trod_string he h1
  rw [List.getElem?_map, List.getElem?_eq_getElem hlt, Option.map_some, Option.some.injEq, hd] at hi
  have hb : s.data.toList = b := by simpa using hi
  have hc : cs[i]? = some (.string s) := by
    have h2 : ((cs.drop (i * 1)).take 1)[0]? = some (.string s) := by rw [hs]; rfl
    simpa using h2
  rw [hc, ← hb]
end Go.Proofs.YtbelacajpbmhdaaDoor
