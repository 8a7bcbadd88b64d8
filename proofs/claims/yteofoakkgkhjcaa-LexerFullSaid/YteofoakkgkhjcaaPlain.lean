/- The lexer as plain functions on lists of bytes. No program here. -/
import Derived.RowKit
import Derived.Lib.Strings
import Derived.Lib.Bytealg
namespace Go.Proofs.Yteofoakkgkhjcaa

def isL (c : Int) : Bool := decide (97 ≤ c) && decide (c ≤ 122)
def isD (c : Int) : Bool := decide (48 ≤ c) && decide (c ≤ 57)
def isS (c : Int) : Bool := c == 32 || c == 9 || c == 13 || c == 10
def isW (c : Int) : Bool := isL c || isD c
def isC (c : Int) : Bool := c != 10
/-- how many bytes at the start satisfy p -/
def runN (p : Int → Bool) (l : List UInt8) : Nat := (l.takeWhile fun c => p (c.toNat : Int)).length
theorem runN_le (p : Int → Bool) (l : List UInt8) : runN p l ≤ l.length := (List.takeWhile_sublist _).length_le
theorem runN_eq (p : Int → Bool) : ∀ (l : List UInt8) (k : Nat), (∀ i (h : i < l.length), i < k → p (l[i].toNat : Int) = true) → k ≤ l.length → (∀ h : k < l.length, p (l[k].toNat : Int) = false) → runN p l = k := by
  intro l
  induction l with
  | nil => intro k _ hk _; simp at hk; subst hk; rfl
  | cons c l ih =>
    intro k h1 hk h2
    unfold runN
    rw [List.takeWhile_cons]
    cases k with
    | zero =>
      have := h2 (by simp)
      simp at this
      simp [this]
    | succ k =>
      have h0 := h1 0 (by simp) (by omega)
      simp at h0
      rw [if_pos h0]
      have := ih k (fun i h hik => by have := h1 (i + 1) (by simp; omega) (by omega); simpa using this) (by simpa using hk) (fun h => by have := h2 (by simp; omega); simpa using this)
      unfold runN at this
      simp [this]
def two : List (List UInt8) := [[58, 61], [43, 61], [45, 61], [94, 61], [61, 61], [33, 61], [60, 61], [62, 61], [38, 38], [124, 124]]
def singles : List UInt8 := [43, 45, 42, 47, 37, 38, 124, 94, 33, 61, 60, 62, 40, 41, 123, 125, 91, 93, 59, 44]
/-- the length of the longest sign at the start of l -/
def sgn (l : List UInt8) : Nat := if Lib.hasPrefix l [60, 61, 62] then 3 else if l.take 2 ∈ two then 2 else if 0 ≤ Lib.indexByte singles (l.headD 0) then 1 else 0
/-- the kind and the length of the token at the start of l -/
def fstK (l : List UInt8) : Int := let c := ((l.headD 0).toNat : Int); if isL c then 1 else if isD c then 2 else if isS c then 4 else if c = 35 then 5 else 3
def fstN (l : List UInt8) : Nat := let c := ((l.headD 0).toNat : Int); if isL c then runN isW l else if isD c then runN isD l else if isS c then runN isS l else if c = 35 then runN isC l else sgn l
end Go.Proofs.Yteofoakkgkhjcaa
