/- What is encoded can be told apart. -/
import Derived.Test.YtmkpdbofhpffaaaRe
namespace Go.Proofs.Ytmkpdbofhpffaaa
open Go.Proofs.Ytmkpdbofhpffaaa.Pv Go.RowKit
set_option maxRecDepth 100000
set_option linter.unusedSimpArgs false
set_option linter.unusedVariables false
def R64 (x : Int) : Prop := -9223372036854775808 ≤ x ∧ x ≤ 9223372036854775807
theorem by8_eq (x : Int) (s : Nat) (h : s ≤ 64) : by8 x (s : Int) = x / (2 ^ s) % 256 := by
  unfold by8
  rw [Int.toNat_natCast, Nat.min_eq_left h, Int.fdiv_eq_ediv_of_nonneg _ (Int.pow_nonneg (by decide))]
  rw [IntKind.wrap_u8]
theorem be8_eq (x : Int) : be8 x = [x / 72057594037927936 % 256, x / 281474976710656 % 256, x / 1099511627776 % 256, x / 4294967296 % 256, x / 16777216 % 256, x / 65536 % 256, x / 256 % 256, x % 256] := by
  have h0 := by8_eq x 56 (by decide)
  have h1 := by8_eq x 48 (by decide)
  have h2 := by8_eq x 40 (by decide)
  have h3 := by8_eq x 32 (by decide)
  have h4 := by8_eq x 24 (by decide)
  have h5 := by8_eq x 16 (by decide)
  have h6 := by8_eq x 8 (by decide)
  have h7 := by8_eq x 0 (by decide)
  simp only [Int.pow_zero, Int.ediv_one] at h7
  show [by8 x 56, by8 x 48, by8 x 40, by8 x 32, by8 x 24, by8 x 16, by8 x 8, by8 x 0] = _
  norm_cast at h0 h1 h2 h3 h4 h5 h6 h7 <;> simp_all
theorem be2_eq (x : Int) : be2 x = [x / 256 % 256, x % 256] := by
  have h6 := by8_eq x 8 (by decide)
  have h7 := by8_eq x 0 (by decide)
  simp only [Int.pow_zero, Int.ediv_one] at h7
  show [by8 x 8, by8 x 0] = _
  simp_all
theorem sum8 (x : Int) : x % 18446744073709551616 = x / 72057594037927936 % 256 * 72057594037927936 + x / 281474976710656 % 256 * 281474976710656 + x / 1099511627776 % 256 * 1099511627776 + x / 4294967296 % 256 * 4294967296 + x / 16777216 % 256 * 16777216 + x / 65536 % 256 * 65536 + x / 256 % 256 * 256 + x % 256 := by omega
theorem be8_inj {x y : Int} (hx : R64 x) (hy : R64 y) (h : be8 x = be8 y) : x = y := by
  rw [be8_eq, be8_eq] at h
  simp only [List.cons.injEq, and_true] at h
  obtain ⟨h0, h1, h2, h3, h4, h5, h6, h7⟩ := h
  have a := sum8 x
  have b := sum8 y
  rw [h0, h1, h2, h3, h4, h5, h6, h7, ← b] at a
  unfold R64 at hx hy
  omega
theorem be2_inj {x y : Int} (hx : 0 ≤ x ∧ x < 65536) (hy : 0 ≤ y ∧ y < 65536) (h : be2 x = be2 y) : x = y := by
  rw [be2_eq, be2_eq] at h
  simp only [List.cons.injEq, and_true] at h
  omega
theorem bes_inj : ∀ {a b : List Int} {r r' : List Int}, (∀ x ∈ a, R64 x) → (∀ x ∈ b, R64 x) → a.length = b.length → bes a ++ r = bes b ++ r' → a = b ∧ r = r'
  | [], [], r, r', _, _, _, h => ⟨rfl, h⟩
  | x :: a, y :: b, r, r', ha, hb, hl, h => by
    unfold bes at h
    rw [List.flatMap_cons, List.flatMap_cons, List.append_assoc, List.append_assoc] at h
    obtain ⟨h1, h2⟩ := List.append_inj h (by rw [be8_len, be8_len])
    obtain ⟨h3, h4⟩ := bes_inj (fun z hz => ha z (List.mem_cons_of_mem _ hz)) (fun z hz => hb z (List.mem_cons_of_mem _ hz)) (by simpa using hl) h2
    exact ⟨by rw [be8_inj (ha x (List.mem_cons_self ..)) (hb y (List.mem_cons_self ..)) h1, h3], h4⟩
  | [], _ :: _, _, _, _, _, hl, _ => by simp at hl
  | _ :: _, [], _, _, _, _, hl, _ => by simp at hl
theorem cnt_inj {a b : List Int} {r r' : List Int} (ha : ∀ x ∈ a, R64 x) (hb : ∀ x ∈ b, R64 x) (la : a.length < 65536) (lb : b.length < 65536) (h : be2 (a.length : Int) ++ (bes a ++ r) = be2 (b.length : Int) ++ (bes b ++ r')) : a = b ∧ r = r' := by
  obtain ⟨h1, h2⟩ := List.append_inj h (by rw [be2_len, be2_len])
  have := be2_inj ⟨by omega, by omega⟩ ⟨by omega, by omega⟩ h1
  exact bes_inj ha hb (by omega) h2
theorem encV_inj {v : VD} {a b r r' : List Int} (ha : ∀ x ∈ a, R64 x) (hb : ∀ x ∈ b, R64 x) (fa : fitC v a = true) (fb : fitC v b = true) (h : encV v a ++ r = encV v b ++ r') : a = b ∧ r = r' := by
  have fa := fitC_iff.1 fa
  have fb := fitC_iff.1 fb
  unfold encV at h
  split at h
  · rename_i hk
    have := fa.1 hk; have := fb.1 hk
    rw [List.append_assoc, List.append_assoc] at h
    exact cnt_inj ha hb (by omega) (by omega) h
  · rename_i hk
    have := fa.2 hk; have := fb.2 hk
    rw [List.nil_append, List.nil_append] at h
    exact bes_inj ha hb (by omega) h
def encZ : List VD → List (List Int) → List Int
  | v :: l, c :: cs => encV v c ++ encZ l cs
  | _, _ => []
theorem encZ_inj : ∀ {l : List VD} {a b : List (List Int)} {r r' : List Int}, a.length = l.length → b.length = l.length → (∀ c ∈ a, ∀ x ∈ c, R64 x) → (∀ c ∈ b, ∀ x ∈ c, R64 x) → (∀ j, j < l.length → fitC (l.getD j default) (a.getD j default) = true) → (∀ j, j < l.length → fitC (l.getD j default) (b.getD j default) = true) → encZ l a ++ r = encZ l b ++ r' → a = b ∧ r = r'
  | [], [], [], r, r', _, _, _, _, _, _, h => ⟨rfl, h⟩
  | v :: l, c :: a, d :: b, r, r', la, lb, ra, rb, fa, fb, h => by
    unfold encZ at h
    rw [List.append_assoc, List.append_assoc] at h
    obtain ⟨h1, h2⟩ := encV_inj (ra c (List.mem_cons_self ..)) (rb d (List.mem_cons_self ..)) (fa 0 (by simp)) (fb 0 (by simp)) h
    obtain ⟨h3, h4⟩ := encZ_inj (by simpa using la) (by simpa using lb) (fun c hc => ra c (List.mem_cons_of_mem _ hc)) (fun c hc => rb c (List.mem_cons_of_mem _ hc)) (fun j hj => by simpa using fa (j + 1) (by simpa using hj)) (fun j hj => by simpa using fb (j + 1) (by simpa using hj)) h2
    exact ⟨by rw [h1, h3], h4⟩
  | [], _ :: _, _, _, _, la, _, _, _, _, _, _ => by simp at la
  | [], [], _ :: _, _, _, _, lb, _, _, _, _, _ => by simp at lb
  | _ :: _, [], _, _, _, la, _, _, _, _, _, _ => by simp at la
  | _ :: _, _ :: _, [], _, _, _, lb, _, _, _, _, _ => by simp at lb
theorem encZ_N : ∀ {l : List VD} {cs : List (List Int)}, cs.length = l.length → (List.range l.length).flatMap (fun (j : Nat) => encV (l.getD j default) (cs.getD j default)) = encZ l cs
  | [], [], _ => rfl
  | v :: l, c :: cs, h => by
    unfold encZ
    rw [← encZ_N (l := l) (cs := cs) (by simpa using h), List.length_cons, List.range_succ_eq_map, List.flatMap_cons, List.flatMap_map]
    rfl
  | [], _ :: _, h => by simp at h
  | _ :: _, [], h => by simp at h
theorem enc_inj {l : List VD} {a b : St} (ha : fitV l a = true) (hb : fitV l b = true) (ra : (∀ c ∈ a.c, ∀ x ∈ c, R64 x) ∧ (∀ x ∈ a.i, R64 x) ∧ ∀ x ∈ a.o, R64 x) (rb : (∀ c ∈ b.c, ∀ x ∈ c, R64 x) ∧ (∀ x ∈ b.i, R64 x) ∧ ∀ x ∈ b.o, R64 x) (h : enc l a = enc l b) : a = b := by
  have fa := fitV_iff.1 ha
  have fb := fitV_iff.1 hb
  have ea : encN l a l.length = encZ l a.c := encZ_N fa.2.1
  have eb : encN l b l.length = encZ l b.c := encZ_N fb.2.1
  unfold enc at h
  rw [ea, eb] at h
  simp only [List.append_assoc, List.length_map] at h
  obtain ⟨h1, h2⟩ := encZ_inj fa.2.1 fb.2.1 ra.1 rb.1 fa.2.2.2.2 fb.2.2.2.2 h
  obtain ⟨h3, h4⟩ := cnt_inj ra.2.1 rb.2.1 (by omega) (by omega) h2
  have h5 : be2 (a.o.length : Int) ++ (bes a.o ++ []) = be2 (b.o.length : Int) ++ (bes b.o ++ []) := by simpa using h4
  obtain ⟨h6, _⟩ := cnt_inj ra.2.2 rb.2.2 (by omega) (by omega) h5
  obtain ⟨x, y, z⟩ := a
  obtain ⟨x', y', z'⟩ := b
  simp only at h1 h3 h6
  rw [h1, h3, h6]
end Go.Proofs.Ytmkpdbofhpffaaa
