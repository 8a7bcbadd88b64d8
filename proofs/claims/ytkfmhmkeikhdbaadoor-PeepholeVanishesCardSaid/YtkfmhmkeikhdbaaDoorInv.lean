/- What an inverse opcode keeps. -/
import Derived.Test.YtkfmhmkeikhdbaaDoorRows
import Derived.WalkKit
import Derived.ProofKit
import Derived.OpenShut
import Derived.Below
import Derived.Lib.Hide
import Derived.Test.YtkfmhmkeikhdbaaDoorCheck
namespace Go.Proofs.YtkfmhmkeikhdbaaDoor
open Go.ChangeShapes Go.WideShapes Go.ChangeAt Go.RowKit
set_option linter.unusedSimpArgs false
set_option linter.unusedVariables false
set_option maxRecDepth 100000
theorem inv_range (k : Int) (h : 0 ≤ k ∧ k ≤ 255) : 0 ≤ invO k ∧ invO k ≤ 255 := by
  by_cases h1 : k = 1
  · subst h1; decide
  by_cases h2 : k = 2
  · subst h2; decide
  by_cases h4 : k = 4
  · subst h4; decide
  by_cases h5 : k = 5
  · subst h5; decide
  by_cases h12 : k = 12
  · subst h12; decide
  by_cases h13 : k = 13
  · subst h13; decide
  by_cases h17 : k = 17
  · subst h17; decide
  by_cases h18 : k = 18
  · subst h18; decide
  by_cases h19 : k = 19
  · subst h19; decide
  by_cases h20 : k = 20
  · subst h20; decide
  by_cases h22 : k = 22
  · subst h22; decide
  by_cases h23 : k = 23
  · subst h23; decide
  by_cases h24 : k = 24
  · subst h24; decide
  by_cases h25 : k = 25
  · subst h25; decide
  by_cases h26 : k = 26
  · subst h26; decide
  by_cases h27 : k = 27
  · subst h27; decide
  by_cases h28 : k = 28
  · subst h28; decide
  by_cases h29 : k = 29
  · subst h29; decide
  by_cases h32 : k = 32
  · subst h32; decide
  by_cases h33 : k = 33
  · subst h33; decide
  have e : invO k = k := invO_other k (by omega)
  rw [e]; exact h
theorem inv_inv (k : Int) : invO (invO k) = k := by
  by_cases h1 : k = 1
  · subst h1; rfl
  by_cases h2 : k = 2
  · subst h2; rfl
  by_cases h4 : k = 4
  · subst h4; rfl
  by_cases h5 : k = 5
  · subst h5; rfl
  by_cases h12 : k = 12
  · subst h12; rfl
  by_cases h13 : k = 13
  · subst h13; rfl
  by_cases h17 : k = 17
  · subst h17; rfl
  by_cases h18 : k = 18
  · subst h18; rfl
  by_cases h19 : k = 19
  · subst h19; rfl
  by_cases h20 : k = 20
  · subst h20; rfl
  by_cases h22 : k = 22
  · subst h22; rfl
  by_cases h23 : k = 23
  · subst h23; rfl
  by_cases h24 : k = 24
  · subst h24; rfl
  by_cases h25 : k = 25
  · subst h25; rfl
  by_cases h26 : k = 26
  · subst h26; rfl
  by_cases h27 : k = 27
  · subst h27; rfl
  by_cases h28 : k = 28
  · subst h28; rfl
  by_cases h29 : k = 29
  · subst h29; rfl
  by_cases h32 : k = 32
  · subst h32; rfl
  by_cases h33 : k = 33
  · subst h33; rfl
  have e : invO k = k := invO_other k (by omega)
  rw [e, e]
theorem inv_tg (k : Int) : tg (invO k) = tg k := by
  by_cases h1 : k = 1
  · subst h1; rfl
  by_cases h2 : k = 2
  · subst h2; rfl
  by_cases h4 : k = 4
  · subst h4; rfl
  by_cases h5 : k = 5
  · subst h5; rfl
  by_cases h12 : k = 12
  · subst h12; rfl
  by_cases h13 : k = 13
  · subst h13; rfl
  by_cases h17 : k = 17
  · subst h17; rfl
  by_cases h18 : k = 18
  · subst h18; rfl
  by_cases h19 : k = 19
  · subst h19; rfl
  by_cases h20 : k = 20
  · subst h20; rfl
  by_cases h22 : k = 22
  · subst h22; rfl
  by_cases h23 : k = 23
  · subst h23; rfl
  by_cases h24 : k = 24
  · subst h24; rfl
  by_cases h25 : k = 25
  · subst h25; rfl
  by_cases h26 : k = 26
  · subst h26; rfl
  by_cases h27 : k = 27
  · subst h27; rfl
  by_cases h28 : k = 28
  · subst h28; rfl
  by_cases h29 : k = 29
  · subst h29; rfl
  by_cases h32 : k = 32
  · subst h32; rfl
  by_cases h33 : k = 33
  · subst h33; rfl
  have e : invO k = k := invO_other k (by omega)
  rw [e]
theorem inv_tv (k a b : Int) : tv (invO k) a b = tv k a b := by unfold tv; rw [inv_tg]
theorem inv_tb (k : Int) : tb (invO k) = tb k := by unfold tb; rw [inv_tg]
theorem inv_op (k : Int) : opS (invO k) = opS k := by
  by_cases h1 : k = 1
  · subst h1; rfl
  by_cases h2 : k = 2
  · subst h2; rfl
  by_cases h4 : k = 4
  · subst h4; rfl
  by_cases h5 : k = 5
  · subst h5; rfl
  by_cases h12 : k = 12
  · subst h12; rfl
  by_cases h13 : k = 13
  · subst h13; rfl
  by_cases h17 : k = 17
  · subst h17; rfl
  by_cases h18 : k = 18
  · subst h18; rfl
  by_cases h19 : k = 19
  · subst h19; rfl
  by_cases h20 : k = 20
  · subst h20; rfl
  by_cases h22 : k = 22
  · subst h22; rfl
  by_cases h23 : k = 23
  · subst h23; rfl
  by_cases h24 : k = 24
  · subst h24; rfl
  by_cases h25 : k = 25
  · subst h25; rfl
  by_cases h26 : k = 26
  · subst h26; rfl
  by_cases h27 : k = 27
  · subst h27; rfl
  by_cases h28 : k = 28
  · subst h28; rfl
  by_cases h29 : k = 29
  · subst h29; rfl
  by_cases h32 : k = 32
  · subst h32; rfl
  by_cases h33 : k = 33
  · subst h33; rfl
  have e : invO k = k := invO_other k (by omega)
  rw [e]
theorem inv_dif (k a b c : Int) : dif (invO k) a b c = dif k a b c := by
  by_cases h1 : k = 1
  · subst h1; rfl
  by_cases h2 : k = 2
  · subst h2; rfl
  by_cases h4 : k = 4
  · subst h4; rfl
  by_cases h5 : k = 5
  · subst h5; rfl
  by_cases h12 : k = 12
  · subst h12; rfl
  by_cases h13 : k = 13
  · subst h13; rfl
  by_cases h17 : k = 17
  · subst h17; rfl
  by_cases h18 : k = 18
  · subst h18; rfl
  by_cases h19 : k = 19
  · subst h19; rfl
  by_cases h20 : k = 20
  · subst h20; rfl
  by_cases h22 : k = 22
  · subst h22; rfl
  by_cases h23 : k = 23
  · subst h23; rfl
  by_cases h24 : k = 24
  · subst h24; rfl
  by_cases h25 : k = 25
  · subst h25; rfl
  by_cases h26 : k = 26
  · subst h26; rfl
  by_cases h27 : k = 27
  · subst h27; rfl
  by_cases h28 : k = 28
  · subst h28; rfl
  by_cases h29 : k = 29
  · subst h29; rfl
  by_cases h32 : k = 32
  · subst h32; rfl
  by_cases h33 : k = 33
  · subst h33; rfl
  have e : invO k = k := invO_other k (by omega)
  rw [e]
theorem inv_lt (k : Int) : decide (invO k < 35) = decide (k < 35) := by
  by_cases h1 : k = 1
  · subst h1; rfl
  by_cases h2 : k = 2
  · subst h2; rfl
  by_cases h4 : k = 4
  · subst h4; rfl
  by_cases h5 : k = 5
  · subst h5; rfl
  by_cases h12 : k = 12
  · subst h12; rfl
  by_cases h13 : k = 13
  · subst h13; rfl
  by_cases h17 : k = 17
  · subst h17; rfl
  by_cases h18 : k = 18
  · subst h18; rfl
  by_cases h19 : k = 19
  · subst h19; rfl
  by_cases h20 : k = 20
  · subst h20; rfl
  by_cases h22 : k = 22
  · subst h22; rfl
  by_cases h23 : k = 23
  · subst h23; rfl
  by_cases h24 : k = 24
  · subst h24; rfl
  by_cases h25 : k = 25
  · subst h25; rfl
  by_cases h26 : k = 26
  · subst h26; rfl
  by_cases h27 : k = 27
  · subst h27; rfl
  by_cases h28 : k = 28
  · subst h28; rfl
  by_cases h29 : k = 29
  · subst h29; rfl
  by_cases h32 : k = 32
  · subst h32; rfl
  by_cases h33 : k = 33
  · subst h33; rfl
  have e : invO k = k := invO_other k (by omega)
  rw [e]
theorem inv_valid (k a b c d : Int) : validB (invO k) a b c d = validB k a b c d := by unfold validB; rw [inv_op, inv_dif, inv_lt]
theorem inv_jmp (k : Int) : jmp (invO k) = lnd k := by
  by_cases h1 : k = 1
  · subst h1; rfl
  by_cases h2 : k = 2
  · subst h2; rfl
  by_cases h4 : k = 4
  · subst h4; rfl
  by_cases h5 : k = 5
  · subst h5; rfl
  by_cases h12 : k = 12
  · subst h12; rfl
  by_cases h13 : k = 13
  · subst h13; rfl
  by_cases h17 : k = 17
  · subst h17; rfl
  by_cases h18 : k = 18
  · subst h18; rfl
  by_cases h19 : k = 19
  · subst h19; rfl
  by_cases h20 : k = 20
  · subst h20; rfl
  by_cases h22 : k = 22
  · subst h22; rfl
  by_cases h23 : k = 23
  · subst h23; rfl
  by_cases h24 : k = 24
  · subst h24; rfl
  by_cases h25 : k = 25
  · subst h25; rfl
  by_cases h26 : k = 26
  · subst h26; rfl
  by_cases h27 : k = 27
  · subst h27; rfl
  by_cases h28 : k = 28
  · subst h28; rfl
  by_cases h29 : k = 29
  · subst h29; rfl
  by_cases h32 : k = 32
  · subst h32; rfl
  by_cases h33 : k = 33
  · subst h33; rfl
  have e : invO k = k := invO_other k (by omega)
  rw [e]; have a1 : jmp k = false := decide_eq_false (by omega); have a2 : lnd k = false := decide_eq_false (by omega); rw [a1, a2]
theorem inv_lnd (k : Int) : lnd (invO k) = jmp k := by
  by_cases h1 : k = 1
  · subst h1; rfl
  by_cases h2 : k = 2
  · subst h2; rfl
  by_cases h4 : k = 4
  · subst h4; rfl
  by_cases h5 : k = 5
  · subst h5; rfl
  by_cases h12 : k = 12
  · subst h12; rfl
  by_cases h13 : k = 13
  · subst h13; rfl
  by_cases h17 : k = 17
  · subst h17; rfl
  by_cases h18 : k = 18
  · subst h18; rfl
  by_cases h19 : k = 19
  · subst h19; rfl
  by_cases h20 : k = 20
  · subst h20; rfl
  by_cases h22 : k = 22
  · subst h22; rfl
  by_cases h23 : k = 23
  · subst h23; rfl
  by_cases h24 : k = 24
  · subst h24; rfl
  by_cases h25 : k = 25
  · subst h25; rfl
  by_cases h26 : k = 26
  · subst h26; rfl
  by_cases h27 : k = 27
  · subst h27; rfl
  by_cases h28 : k = 28
  · subst h28; rfl
  by_cases h29 : k = 29
  · subst h29; rfl
  by_cases h32 : k = 32
  · subst h32; rfl
  by_cases h33 : k = 33
  · subst h33; rfl
  have e : invO k = k := invO_other k (by omega)
  rw [e]; have a1 : jmp k = false := decide_eq_false (by omega); have a2 : lnd k = false := decide_eq_false (by omega); rw [a1, a2]
end Go.Proofs.YtkfmhmkeikhdbaaDoor
