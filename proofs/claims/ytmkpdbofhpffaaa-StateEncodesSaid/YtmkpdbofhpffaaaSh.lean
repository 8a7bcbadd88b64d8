/- The reference's encoder. -/
import Derived.Test.YtmkpdbofhpffaaaSg
namespace Go.Proofs.Ytmkpdbofhpffaaa
open Go.Proofs.Ytmkpdbofhpffaaa.Pv Go.RowKit
set_option maxRecDepth 100000
set_option maxHeartbeats 4000000
set_option linter.unusedSimpArgs false
set_option linter.unusedVariables false
set_option maxHeartbeats 2000000
def byU (x s : Int) : Int := IntKind.wrap .u8 ((IntKind.wrap .u64 x).fdiv (2 ^ (min s.toNat 64)))
def beU (x : Int) (i : Nat) : List Int := (List.range i).map fun (j : Nat) => byU x (8 * (7 - (j : Int)))
def encC (c : Bool) (l : List Int) : List Int := (if c = true then be2 (l.length : Int) else []) ++ bes l
theorem t65 (iso : Nat → List PV → Option PV) (shr : Nat → List PV → List Pv.Box → Option (PV × List Pv.Box)) (x : Int) (m : Nat) : wsh Try.prog X (Orc.mk iso shr (ownS X.sh) []) 65 40 Try.f65 [.int .i64 x] [] (.k [(1000001)] [(0)] (.mk (.mk (19) [.mk (4) (.int (IntKind.i64) (7)), .mk (0) (.int (IntKind.i64) (x)), .mk (3) (.own (0) (1) [])]) [.mk (1) [] (3)]) (.exit (0)) (.mk (.mk (19) [.mk (3) (.lst (1) (List.map U8 (beU x m)))]) []) (.e)) = .sem (((true = true) ∧ frzOk [1000001] [] ∧ (VW (Pv.idxL [0]) [.mk (1) [] (3)] (.int (IntKind.i64) (7)) (.int (IntKind.i64) (7)) ∧ (VW (Pv.idxL [0]) [.mk (1) [] (3)] (.int (IntKind.i64) (x)) (.int (IntKind.i64) (x)) ∧ (VW (Pv.idxL [0]) [.mk (1) [] (3)] (.nils) (.own (0) (1) []) ∧ True))) ∧ (BW (Pv.idxL [0]) [.mk (1) [] (3)] (.mk (1) [] (3)) (.mk (1) [] (3)) ∧ True))) (.sem (LoopOk Try.prog X.G 0 (lpB Try.f65 3) (.mk (.mk (19) [.mk (4) (.int (IntKind.i64) (7)), .mk (0) (.int (IntKind.i64) (x)), .mk (3) (.own (0) (1) [])]) [.mk (1) [] (3)]) (.exit (0)) (.mk (.mk (19) [.mk (3) (.lst (1) (List.map U8 (beU x m)))]) [])) (.done (.mk (.lst (1) (List.map U8 (beU x m))) []))) := by kernel_rfl
def r65_h0 (iso : Nat → List PV → Option PV) (shr : Nat → List PV → List Pv.Box → Option (PV × List Pv.Box)) (x : Int) (m : Nat) (i : Nat) : List Pv.Box := [.mk (1) [] (2), .mk (1) [.int (IntKind.u8) (byU x (8 * (7 - (↑i : Int))))] (0), .mk (1) (List.replicate (List.length (beU x (i + 1)) * 1) PV.any) (3)]
def r65_h1 (iso : Nat → List PV → Option PV) (shr : Nat → List PV → List Pv.Box → Option (PV × List Pv.Box)) (x : Int) (m : Nat) (i : Nat) : List Pv.Box := [.mk (1) (List.replicate (List.length (beU x i) * 1) PV.any) (3)]
theorem r65 (iso : Nat → List PV → Option PV) (shr : Nat → List PV → List Pv.Box → Option (PV × List Pv.Box)) (x : Int) (m : Nat) (i : Nat) : wround Try.prog X (Orc.mk iso shr (ownS X.sh) []) 0 40 (lpB Try.f65 3) ⟨⟨19, [(4, .int .i64 (7 - ((i : Nat) : Int))), (0, .int .i64 x), (3, .own 0 1 (List.map U8 (beU x i)))]⟩, [tik 1 ((beU x i).length * 1)]⟩ (.s (.n 1 (.v (.int (IntKind.u64) (Int.fdiv (IntKind.wrap IntKind.u64 x) (2 ^ min (Int.toNat (8 * (7 - (↑i : Int)))) 64))) (.n 1 (.w (.own (2) (1) (List.map U8 (beU x (i + 1)))) [.mk (1) [] (2), .mk (1) [.int (IntKind.u8) (byU x (8 * (7 - (↑i : Int))))] (0), .mk (1) (List.replicate (List.length (beU x (i + 1)) * 1) PV.any) (3)] (.k [] [(2)] (.mk (.mk (19) [.mk (4) (.int (IntKind.i64) (7 - (↑(i + 1) : Int))), .mk (0) (.int (IntKind.i64) (x)), .mk (3) (.own (0) (1) (List.map U8 (beU x (i + 1))))]) [.mk (1) (List.replicate (List.length (beU x (i + 1)) * 1) PV.any) (3)]) (.normal) (.mk (.mk (19) [.mk (4) (.int (IntKind.i64) (7 - (↑(i + 1) : Int))), .mk (0) (.int (IntKind.i64) (x)), .mk (3) (.own (0) (1) (List.map U8 (beU x (i + 1))))]) [.mk (1) (List.replicate (List.length (beU x (i + 1)) * 1) PV.any) (3)]) (.e)))))) (.k [] [] (.mk (.mk (19) [.mk (4) (.int (IntKind.i64) (7 - (↑i : Int))), .mk (0) (.int (IntKind.i64) (x)), .mk (3) (.own (0) (1) (List.map U8 (beU x i)))]) [.mk (1) (List.replicate (List.length (beU x i) * 1) PV.any) (3)]) (.exit (0)) (.mk (.mk (19) [.mk (3) (.lst (1) (List.map U8 (beU x m)))]) []) (.e))) = .ask (decide (7 - (↑i : Int) ≥ 0)) (.eq ((pbin Try.prog BinOp.shr 96 false (.int (IntKind.u64) (IntKind.wrap IntKind.u64 x)) (.int (IntKind.i64) (IntKind.wrap IntKind.i64 (8 * (7 - (↑i : Int)))))).map fun v => (v, [.mk (1) (List.replicate (List.length (beU x i) * 1) PV.any) (3)])) (.int (IntKind.u64) (Int.fdiv (IntKind.wrap IntKind.u64 x) (2 ^ min (Int.toNat (8 * (7 - (↑i : Int)))) 64))) [.mk (1) (List.replicate (List.length (beU x i) * 1) PV.any) (3)] (.eq (pappM true Try.prog [.mk (1) (List.replicate (List.length (beU x i) * 1) PV.any) (3), .mk (1) [.int (IntKind.u8) (IntKind.wrap IntKind.u8 (Int.fdiv (IntKind.wrap IntKind.u64 x) (2 ^ min (Int.toNat (8 * (7 - (↑i : Int)))) 64)))] (0)] (List.length ([.mk (1) (List.replicate (List.length (beU x i) * 1) PV.any) (3), .mk (1) [.int (IntKind.u8) (IntKind.wrap IntKind.u8 (Int.fdiv (IntKind.wrap IntKind.u64 x) (2 ^ min (Int.toNat (8 * (7 - (↑i : Int)))) 64)))] (0)] : List Pv.Box)) 55 55 (.own (0) (1) (List.map U8 (beU x i))) (.sl (1) (1) (0) (1))) (.own (2) (1) (List.map U8 (beU x (i + 1)))) [.mk (1) [] (2), .mk (1) [.int (IntKind.u8) (byU x (8 * (7 - (↑i : Int))))] (0), .mk (1) (List.replicate (List.length (beU x (i + 1)) * 1) PV.any) (3)] (.sem (((true = true) ∧ True ∧ (VW (Pv.idxL [2]) (r65_h0 iso shr x m i) (.int (IntKind.i64) (IntKind.wrap IntKind.i64 (7 - (↑i : Int) - 1))) (.int (IntKind.i64) (7 - (↑(i + 1) : Int))) ∧ (VW (Pv.idxL [2]) (r65_h0 iso shr x m i) (.int (IntKind.i64) (x)) (.int (IntKind.i64) (x)) ∧ (VW (Pv.idxL [2]) (r65_h0 iso shr x m i) (.own (2) (1) (List.map U8 (beU x (i + 1)))) (.own (0) (1) (List.map U8 (beU x (i + 1)))) ∧ True))) ∧ (BW (Pv.idxL [2]) (r65_h0 iso shr x m i) (.mk (1) (List.replicate (List.length (beU x (i + 1)) * 1) PV.any) (3)) (.mk (1) (List.replicate (List.length (beU x (i + 1)) * 1) PV.any) (3)) ∧ True))) (.done (.mk (.normal) (.mk (.mk (19) [.mk (4) (.int (IntKind.i64) (7 - (↑(i + 1) : Int))), .mk (0) (.int (IntKind.i64) (x)), .mk (3) (.own (0) (1) (List.map U8 (beU x (i + 1))))]) [.mk (1) (List.replicate (List.length (beU x (i + 1)) * 1) PV.any) (3)])))))) (.sem (((.exit (0) : Pv.PE) = (.exit (0)))) (.sem (((true = true) ∧ True ∧ (VW (Pv.idxL []) (r65_h1 iso shr x m i) (.own (0) (1) (List.map U8 (beU x i))) (.lst (1) (List.map U8 (beU x m))) ∧ True) ∧ True)) (.done (.mk (.exit (0)) (.mk (.mk (19) [.mk (3) (.lst (1) (List.map U8 (beU x m)))]) []))))) := by kernel_rfl
def r51_h0 (iso : Nat → List PV → Option PV) (shr : Nat → List PV → List Pv.Box → Option (PV × List Pv.Box)) (E8 : Int → List Int) (l p : List Int) (i : Nat) : List Pv.Box := [.mk (1) [] (2), .mk (1) (List.replicate (List.length (p ++ bes (List.take (i + 1) l)) * 1) PV.any) (3)]
def r51_h1 (iso : Nat → List PV → Option PV) (shr : Nat → List PV → List Pv.Box → Option (PV × List Pv.Box)) (E8 : Int → List Int) (l p : List Int) (i : Nat) : List Pv.Box := [.mk (1) (List.replicate (List.length (p ++ bes (List.take i l)) * 1) PV.any) (3)]
theorem r51 (iso : Nat → List PV → Option PV) (shr : Nat → List PV → List Pv.Box → Option (PV × List Pv.Box)) (E8 : Int → List Int) (l p : List Int) (i : Nat) : wround Try.prog X (Orc.mk iso shr (ownS X.sh) []) 0 40 (lpB Try.f51 5) ⟨⟨33, [(6, .int .i64 ((i : Nat) : Int)), (0, ints l), (5, .own 0 1 (List.map U8 (p ++ bes (l.take i))))]⟩, [tik 1 ((p ++ bes (l.take i)).length * 1)]⟩ (.n 1 (.s (.w (.cptr [.int (IntKind.i64) (List.getD l i 0)]) [.mk (1) (List.replicate (List.length (p ++ bes (List.take i l)) * 1) PV.any) (3)] (.n 1 (.w (.lst (1) (List.map U8 (E8 (List.getD l i 0)))) [.mk (1) (List.replicate (List.length (p ++ bes (List.take i l)) * 1) PV.any) (3)] (.w (.own (1) (1) (List.map U8 (p ++ bes (List.take (i + 1) l)))) [.mk (1) [] (2), .mk (1) (List.replicate (List.length (p ++ bes (List.take (i + 1) l)) * 1) PV.any) (3)] (.k [] [(1)] (.mk (.mk (33) [.mk (6) (.int (IntKind.i64) ((↑(i + 1) : Int))), .mk (0) (.lst (1) (List.map I l)), .mk (5) (.own (0) (1) (List.map U8 (p ++ bes (List.take (i + 1) l))))]) [.mk (1) (List.replicate (List.length (p ++ bes (List.take (i + 1) l)) * 1) PV.any) (3)]) (.normal) (.mk (.mk (33) [.mk (6) (.int (IntKind.i64) ((↑(i + 1) : Int))), .mk (0) (.lst (1) (List.map I l)), .mk (5) (.own (0) (1) (List.map U8 (p ++ bes (List.take (i + 1) l))))]) [.mk (1) (List.replicate (List.length (p ++ bes (List.take (i + 1) l)) * 1) PV.any) (3)]) (.e)))))) (.k [] [] (.mk (.mk (33) [.mk (6) (.int (IntKind.i64) ((↑i : Int))), .mk (0) (.lst (1) (List.map I l)), .mk (5) (.own (0) (1) (List.map U8 (p ++ bes (List.take i l))))]) [.mk (1) (List.replicate (List.length (p ++ bes (List.take i l)) * 1) PV.any) (3)]) (.exit (0)) (.mk (.mk (33) [.mk (5) (.lst (1) (List.map U8 (p ++ bes l)))]) []) (.e)))) = .ask (decide ((↑i : Int) < (↑(List.length (List.map I l)) : Int))) (.eq ((pidx Try.prog 23 (.lst (1) (List.map I l)) (.int (IntKind.i64) ((↑i : Int)))).map fun v => (v, [.mk (1) (List.replicate (List.length (p ++ bes (List.take i l)) * 1) PV.any) (3)])) (.cptr [.int (IntKind.i64) (List.getD l i 0)]) [.mk (1) (List.replicate (List.length (p ++ bes (List.take i l)) * 1) PV.any) (3)] (.eq (pcallv (Orc.mk iso shr (ownS X.sh) []) (.fn (65) []) [(.int (IntKind.i64) (List.getD l i 0))] [.mk (1) (List.replicate (List.length (p ++ bes (List.take i l)) * 1) PV.any) (3)]) (.lst (1) (List.map U8 (E8 (List.getD l i 0)))) [.mk (1) (List.replicate (List.length (p ++ bes (List.take i l)) * 1) PV.any) (3)] (.eq (pappM true Try.prog [.mk (1) (List.replicate (List.length (p ++ bes (List.take i l)) * 1) PV.any) (3)] (List.length ([.mk (1) (List.replicate (List.length (p ++ bes (List.take i l)) * 1) PV.any) (3)] : List Pv.Box)) 55 55 (.own (0) (1) (List.map U8 (p ++ bes (List.take i l)))) (.lst (1) (List.map U8 (E8 (List.getD l i 0))))) (.own (1) (1) (List.map U8 (p ++ bes (List.take (i + 1) l)))) [.mk (1) [] (2), .mk (1) (List.replicate (List.length (p ++ bes (List.take (i + 1) l)) * 1) PV.any) (3)] (.sem (((true = true) ∧ True ∧ (VW (Pv.idxL [1]) (r51_h0 iso shr E8 l p i) (.int (IntKind.i64) (IntKind.wrap IntKind.i64 ((↑i : Int) + 1))) (.int (IntKind.i64) ((↑(i + 1) : Int))) ∧ (VW (Pv.idxL [1]) (r51_h0 iso shr E8 l p i) (.lst (1) (List.map I l)) (.lst (1) (List.map I l)) ∧ (VW (Pv.idxL [1]) (r51_h0 iso shr E8 l p i) (.own (1) (1) (List.map U8 (p ++ bes (List.take (i + 1) l)))) (.own (0) (1) (List.map U8 (p ++ bes (List.take (i + 1) l)))) ∧ True))) ∧ (BW (Pv.idxL [1]) (r51_h0 iso shr E8 l p i) (.mk (1) (List.replicate (List.length (p ++ bes (List.take (i + 1) l)) * 1) PV.any) (3)) (.mk (1) (List.replicate (List.length (p ++ bes (List.take (i + 1) l)) * 1) PV.any) (3)) ∧ True))) (.done (.mk (.normal) (.mk (.mk (33) [.mk (6) (.int (IntKind.i64) ((↑(i + 1) : Int))), .mk (0) (.lst (1) (List.map I l)), .mk (5) (.own (0) (1) (List.map U8 (p ++ bes (List.take (i + 1) l))))]) [.mk (1) (List.replicate (List.length (p ++ bes (List.take (i + 1) l)) * 1) PV.any) (3)]))))))) (.sem (((.exit (0) : Pv.PE) = (.exit (0)))) (.sem (((true = true) ∧ True ∧ (VW (Pv.idxL []) (r51_h1 iso shr E8 l p i) (.own (0) (1) (List.map U8 (p ++ bes (List.take i l)))) (.lst (1) (List.map U8 (p ++ bes l))) ∧ True) ∧ True)) (.done (.mk (.exit (0)) (.mk (.mk (33) [.mk (5) (.lst (1) (List.map U8 (p ++ bes l)))]) []))))) := by kernel_rfl
def t51t_h0 (iso : Nat → List PV → Option PV) (shr : Nat → List PV → List Pv.Box → Option (PV × List Pv.Box)) (l p : List Int) : List Pv.Box := [.mk (1) [.int (IntKind.u8) (IntKind.wrap IntKind.u8 (IntKind.wrap IntKind.i64 (Int.tdiv (↑(List.length l) : Int) (OfNat.ofNat 256)))), .int (IntKind.u8) (IntKind.wrap IntKind.u8 (Int.tmod (↑(List.length l) : Int) (OfNat.ofNat 256)))] (0), .mk (1) (List.replicate (List.length p * 1) PV.any) (3)]
theorem t51t (iso : Nat → List PV → Option PV) (shr : Nat → List PV → List Pv.Box → Option (PV × List Pv.Box)) (l p : List Int) : wsh Try.prog X (Orc.mk iso shr (ownS X.sh) []) 51 40 Try.f51 [ints l, .bool true] [] (.n 6 (.w (.own (1) (1) (List.map U8 p)) [.mk (1) [.int (IntKind.u8) (IntKind.wrap IntKind.u8 (IntKind.wrap IntKind.i64 (Int.tdiv (↑(List.length l) : Int) (OfNat.ofNat 256)))), .int (IntKind.u8) (IntKind.wrap IntKind.u8 (Int.tmod (↑(List.length l) : Int) (OfNat.ofNat 256)))] (0), .mk (1) (List.replicate (List.length p * 1) PV.any) (3)] (.k [] [(1)] (.mk (.mk (33) [.mk (6) (.int (IntKind.i64) (0)), .mk (0) (.lst (1) (List.map I l)), .mk (5) (.own (0) (1) (List.map U8 (p ++ bes (List.take 0 l))))]) [.mk (1) (List.replicate (List.length (p ++ bes (List.take 0 l)) * 1) PV.any) (3)]) (.exit (0)) (.mk (.mk (33) [.mk (5) (.lst (1) (List.map U8 (p ++ bes l)))]) []) (.e)))) = .eq (pappM true Try.prog [.mk (1) [.int (IntKind.u8) (IntKind.wrap IntKind.u8 (IntKind.wrap IntKind.i64 (Int.tdiv (↑(List.length (List.map I l)) : Int) 256))), .int (IntKind.u8) (IntKind.wrap IntKind.u8 (Int.tmod (↑(List.length (List.map I l)) : Int) 256))] (0)] (List.length ([.mk (1) [.int (IntKind.u8) (IntKind.wrap IntKind.u8 (IntKind.wrap IntKind.i64 (Int.tdiv (↑(List.length (List.map I l)) : Int) 256))), .int (IntKind.u8) (IntKind.wrap IntKind.u8 (Int.tmod (↑(List.length (List.map I l)) : Int) 256))] (0)] : List Pv.Box)) 55 55 (.nils) (.sl (0) (1) (0) (2))) (.own (1) (1) (List.map U8 p)) [.mk (1) [.int (IntKind.u8) (IntKind.wrap IntKind.u8 (IntKind.wrap IntKind.i64 (Int.tdiv (↑(List.length l) : Int) (OfNat.ofNat 256)))), .int (IntKind.u8) (IntKind.wrap IntKind.u8 (Int.tmod (↑(List.length l) : Int) (OfNat.ofNat 256)))] (0), .mk (1) (List.replicate (List.length p * 1) PV.any) (3)] (.sem (((true = true) ∧ True ∧ (VW (Pv.idxL [1]) (t51t_h0 iso shr l p) (.int (IntKind.i64) (0)) (.int (IntKind.i64) (0)) ∧ (VW (Pv.idxL [1]) (t51t_h0 iso shr l p) (.lst (1) (List.map I l)) (.lst (1) (List.map I l)) ∧ (VW (Pv.idxL [1]) (t51t_h0 iso shr l p) (.own (1) (1) (List.map U8 p)) (.own (0) (1) (List.map U8 (p ++ bes (List.take 0 l)))) ∧ True))) ∧ (BW (Pv.idxL [1]) (t51t_h0 iso shr l p) (.mk (1) (List.replicate (List.length p * 1) PV.any) (3)) (.mk (1) (List.replicate (List.length (p ++ bes (List.take 0 l)) * 1) PV.any) (3)) ∧ True))) (.sem (LoopOk Try.prog X.G 0 (lpB Try.f51 5) (.mk (.mk (33) [.mk (6) (.int (IntKind.i64) (0)), .mk (0) (.lst (1) (List.map I l)), .mk (5) (.own (0) (1) (List.map U8 (p ++ bes (List.take 0 l))))]) [.mk (1) (List.replicate (List.length (p ++ bes (List.take 0 l)) * 1) PV.any) (3)]) (.exit (0)) (.mk (.mk (33) [.mk (5) (.lst (1) (List.map U8 (p ++ bes l)))]) [])) (.done (.mk (.lst (1) (List.map U8 (p ++ bes l))) [])))) := by kernel_rfl
theorem t51f (iso : Nat → List PV → Option PV) (shr : Nat → List PV → List Pv.Box → Option (PV × List Pv.Box)) (l p : List Int) : wsh Try.prog X (Orc.mk iso shr (ownS X.sh) []) 51 40 Try.f51 [ints l, .bool false] [] (.k [(1000001)] [(0)] (.mk (.mk (33) [.mk (6) (.int (IntKind.i64) (0)), .mk (0) (.lst (1) (List.map I l)), .mk (5) (.own (0) (1) (List.map U8 (p ++ bes (List.take 0 l))))]) [.mk (1) (List.replicate (List.length (p ++ bes (List.take 0 l)) * 1) PV.any) (3)]) (.exit (0)) (.mk (.mk (33) [.mk (5) (.lst (1) (List.map U8 (p ++ bes l)))]) []) (.e)) = .sem (((true = true) ∧ frzOk [1000001] [] ∧ (VW (Pv.idxL [0]) [.mk (1) [] (3)] (.int (IntKind.i64) (0)) (.int (IntKind.i64) (0)) ∧ (VW (Pv.idxL [0]) [.mk (1) [] (3)] (.lst (1) (List.map I l)) (.lst (1) (List.map I l)) ∧ (VW (Pv.idxL [0]) [.mk (1) [] (3)] (.nils) (.own (0) (1) (List.map U8 (p ++ bes (List.take 0 l)))) ∧ True))) ∧ (BW (Pv.idxL [0]) [.mk (1) [] (3)] (.mk (1) [] (3)) (.mk (1) (List.replicate (List.length (p ++ bes (List.take 0 l)) * 1) PV.any) (3)) ∧ True))) (.sem (LoopOk Try.prog X.G 0 (lpB Try.f51 5) (.mk (.mk (33) [.mk (6) (.int (IntKind.i64) (0)), .mk (0) (.lst (1) (List.map I l)), .mk (5) (.own (0) (1) (List.map U8 (p ++ bes (List.take 0 l))))]) [.mk (1) (List.replicate (List.length (p ++ bes (List.take 0 l)) * 1) PV.any) (3)]) (.exit (0)) (.mk (.mk (33) [.mk (5) (.lst (1) (List.map U8 (p ++ bes l)))]) [])) (.done (.mk (.lst (1) (List.map U8 (p ++ bes l))) []))) := by kernel_rfl
def r32_h0 (iso : Nat → List PV → Option PV) (shr : Nat → List PV → List Pv.Box → Option (PV × List Pv.Box)) (EC : Bool → List Int → List Int) (l : List VD) (s : St) (i : Nat) : List Pv.Box := [.mk (1) [] (2), .mk (1) (List.replicate (List.length (encN l s (i + 1)) * 1) PV.any) (3)]
def r32_h1 (iso : Nat → List PV → Option PV) (shr : Nat → List PV → List Pv.Box → Option (PV × List Pv.Box)) (EC : Bool → List Int → List Int) (l : List VD) (s : St) (i : Nat) : List Pv.Box := [.mk (1) (List.replicate (List.length (encN l s i) * 1) PV.any) (3)]
theorem r32 (iso : Nat → List PV → Option PV) (shr : Nat → List PV → List Pv.Box → Option (PV × List Pv.Box)) (EC : Bool → List Int → List Int) (l : List VD) (s : St) (i : Nat) : wround Try.prog X (Orc.mk iso shr (ownS X.sh) []) 0 40 (lpB Try.f32 3) ⟨⟨36, [(6, .int .i64 ((i : Nat) : Int)), (0, vars l), (3, .cptr (St.cs s)), (5, .own 0 1 (List.map U8 (encN l s i)))]⟩, [tik 1 ((encN l s i).length * 1)]⟩ (.n 1 (.s (.n 2 (.w (.cptr [.lst (1) (List.map I (List.getD (St.c s) i default))]) [.mk (1) (List.replicate (List.length (encN l s i) * 1) PV.any) (3)] (.n 1 (.w (.cptr [.str (VD.nm (List.getD l i default)), .int (IntKind.u8) (VD.k (List.getD l i default)), .int (IntKind.i64) (VD.n (List.getD l i default))]) [.mk (1) (List.replicate (List.length (encN l s i) * 1) PV.any) (3)] (.n 2 (.s (.w (.lst (1) (List.map U8 (EC true (List.getD (St.c s) i default)))) [.mk (1) (List.replicate (List.length (encN l s i) * 1) PV.any) (3)] (.w (.own (1) (1) (List.map U8 (encN l s (i + 1)))) [.mk (1) [] (2), .mk (1) (List.replicate (List.length (encN l s (i + 1)) * 1) PV.any) (3)] (.k [] [(1)] (.mk (.mk (36) [.mk (6) (.int (IntKind.i64) ((↑(i + 1) : Int))), .mk (0) (.lst (3) (List.map VD.pv l)), .mk (3) (.cptr [.lst (1) (List.map ints (St.c s)), .lst (1) (List.map I (St.i s)), .lst (1) (List.map I (St.o s))]), .mk (5) (.own (0) (1) (List.map U8 (encN l s (i + 1))))]) [.mk (1) (List.replicate (List.length (encN l s (i + 1)) * 1) PV.any) (3)]) (.normal) (.mk (.mk (36) [.mk (6) (.int (IntKind.i64) ((↑(i + 1) : Int))), .mk (0) (.lst (3) (List.map VD.pv l)), .mk (3) (.cptr [.lst (1) (List.map ints (St.c s)), .lst (1) (List.map I (St.i s)), .lst (1) (List.map I (St.o s))]), .mk (5) (.own (0) (1) (List.map U8 (encN l s (i + 1))))]) [.mk (1) (List.replicate (List.length (encN l s (i + 1)) * 1) PV.any) (3)]) (.e)))) (.w (.lst (1) (List.map U8 (EC false (List.getD (St.c s) i default)))) [.mk (1) (List.replicate (List.length (encN l s i) * 1) PV.any) (3)] (.w (.own (1) (1) (List.map U8 (encN l s (i + 1)))) [.mk (1) [] (2), .mk (1) (List.replicate (List.length (encN l s (i + 1)) * 1) PV.any) (3)] (.k [] [(1)] (.mk (.mk (36) [.mk (6) (.int (IntKind.i64) ((↑(i + 1) : Int))), .mk (0) (.lst (3) (List.map VD.pv l)), .mk (3) (.cptr [.lst (1) (List.map ints (St.c s)), .lst (1) (List.map I (St.i s)), .lst (1) (List.map I (St.o s))]), .mk (5) (.own (0) (1) (List.map U8 (encN l s (i + 1))))]) [.mk (1) (List.replicate (List.length (encN l s (i + 1)) * 1) PV.any) (3)]) (.normal) (.mk (.mk (36) [.mk (6) (.int (IntKind.i64) ((↑(i + 1) : Int))), .mk (0) (.lst (3) (List.map VD.pv l)), .mk (3) (.cptr [.lst (1) (List.map ints (St.c s)), .lst (1) (List.map I (St.i s)), .lst (1) (List.map I (St.o s))]), .mk (5) (.own (0) (1) (List.map U8 (encN l s (i + 1))))]) [.mk (1) (List.replicate (List.length (encN l s (i + 1)) * 1) PV.any) (3)]) (.e)))))))))) (.k [] [(0)] (.mk (.mk (36) [.mk (6) (.int (IntKind.i64) ((↑i : Int))), .mk (0) (.lst (3) (List.map VD.pv l)), .mk (3) (.cptr [.lst (1) (List.map ints (St.c s)), .lst (1) (List.map I (St.i s)), .lst (1) (List.map I (St.o s))]), .mk (5) (.own (0) (1) (List.map U8 (encN l s i)))]) [.mk (1) (List.replicate (List.length (encN l s i) * 1) PV.any) (3)]) (.exit (0)) (.mk (.mk (36) [.mk (3) (.cptr [.lst (1) (List.map ints (St.c s)), .lst (1) (List.map I (St.i s)), .lst (1) (List.map I (St.o s))]), .mk (5) (.own (0) (1) (List.map U8 (encN l s (List.length l))))]) [.mk (1) (List.replicate (List.length (encN l s (List.length l)) * 1) PV.any) (3)]) (.e)))) = .ask (decide ((↑i : Int) < (↑(List.length (List.map VD.pv l)) : Int))) (.eq ((pidx Try.prog 25 (.lst (1) (List.map ints (St.c s))) (.int (IntKind.i64) ((↑i : Int)))).map fun v => (v, [.mk (1) (List.replicate (List.length (encN l s i) * 1) PV.any) (3)])) (.cptr [.lst (1) (List.map I (List.getD (St.c s) i default))]) [.mk (1) (List.replicate (List.length (encN l s i) * 1) PV.any) (3)] (.eq ((pidx Try.prog 22 (.lst (3) (List.map VD.pv l)) (.int (IntKind.i64) ((↑i : Int)))).map fun v => (v, [.mk (1) (List.replicate (List.length (encN l s i) * 1) PV.any) (3)])) (.cptr [.str (VD.nm (List.getD l i default)), .int (IntKind.u8) (VD.k (List.getD l i default)), .int (IntKind.i64) (VD.n (List.getD l i default))]) [.mk (1) (List.replicate (List.length (encN l s i) * 1) PV.any) (3)] (.ask (VD.k (List.getD l i default) == 3) (.eq ((pcallD (Orc.mk iso shr (ownS X.sh) []) (.fn (51) []) [(.lst (1) (List.map I (List.getD (St.c s) i default))), (.bool (true))] [.mk (1) (List.replicate (List.length (encN l s i) * 1) PV.any) (3)]).map fun (v, more) => (v, [.mk (1) (List.replicate (List.length (encN l s i) * 1) PV.any) (3)] ++ more)) (.lst (1) (List.map U8 (EC true (List.getD (St.c s) i default)))) [.mk (1) (List.replicate (List.length (encN l s i) * 1) PV.any) (3)] (.eq (pappM true Try.prog [.mk (1) (List.replicate (List.length (encN l s i) * 1) PV.any) (3)] (List.length ([.mk (1) (List.replicate (List.length (encN l s i) * 1) PV.any) (3)] : List Pv.Box)) 55 55 (.own (0) (1) (List.map U8 (encN l s i))) (.lst (1) (List.map U8 (EC true (List.getD (St.c s) i default))))) (.own (1) (1) (List.map U8 (encN l s (i + 1)))) [.mk (1) [] (2), .mk (1) (List.replicate (List.length (encN l s (i + 1)) * 1) PV.any) (3)] (.sem (((true = true) ∧ True ∧ (VW (Pv.idxL [1]) (r32_h0 iso shr EC l s i) (.int (IntKind.i64) (IntKind.wrap IntKind.i64 ((↑i : Int) + 1))) (.int (IntKind.i64) ((↑(i + 1) : Int))) ∧ (VW (Pv.idxL [1]) (r32_h0 iso shr EC l s i) (.lst (3) (List.map VD.pv l)) (.lst (3) (List.map VD.pv l)) ∧ (VW (Pv.idxL [1]) (r32_h0 iso shr EC l s i) (.cptr [.lst (1) (List.map ints (St.c s)), .lst (1) (List.map I (St.i s)), .lst (1) (List.map I (St.o s))]) (.cptr [.lst (1) (List.map ints (St.c s)), .lst (1) (List.map I (St.i s)), .lst (1) (List.map I (St.o s))]) ∧ (VW (Pv.idxL [1]) (r32_h0 iso shr EC l s i) (.own (1) (1) (List.map U8 (encN l s (i + 1)))) (.own (0) (1) (List.map U8 (encN l s (i + 1)))) ∧ True)))) ∧ (BW (Pv.idxL [1]) (r32_h0 iso shr EC l s i) (.mk (1) (List.replicate (List.length (encN l s (i + 1)) * 1) PV.any) (3)) (.mk (1) (List.replicate (List.length (encN l s (i + 1)) * 1) PV.any) (3)) ∧ True))) (.done (.mk (.normal) (.mk (.mk (36) [.mk (6) (.int (IntKind.i64) ((↑(i + 1) : Int))), .mk (0) (.lst (3) (List.map VD.pv l)), .mk (3) (.cptr [.lst (1) (List.map ints (St.c s)), .lst (1) (List.map I (St.i s)), .lst (1) (List.map I (St.o s))]), .mk (5) (.own (0) (1) (List.map U8 (encN l s (i + 1))))]) [.mk (1) (List.replicate (List.length (encN l s (i + 1)) * 1) PV.any) (3)])))))) (.eq ((pcallD (Orc.mk iso shr (ownS X.sh) []) (.fn (51) []) [(.lst (1) (List.map I (List.getD (St.c s) i default))), (.bool (false))] [.mk (1) (List.replicate (List.length (encN l s i) * 1) PV.any) (3)]).map fun (v, more) => (v, [.mk (1) (List.replicate (List.length (encN l s i) * 1) PV.any) (3)] ++ more)) (.lst (1) (List.map U8 (EC false (List.getD (St.c s) i default)))) [.mk (1) (List.replicate (List.length (encN l s i) * 1) PV.any) (3)] (.eq (pappM true Try.prog [.mk (1) (List.replicate (List.length (encN l s i) * 1) PV.any) (3)] (List.length ([.mk (1) (List.replicate (List.length (encN l s i) * 1) PV.any) (3)] : List Pv.Box)) 55 55 (.own (0) (1) (List.map U8 (encN l s i))) (.lst (1) (List.map U8 (EC false (List.getD (St.c s) i default))))) (.own (1) (1) (List.map U8 (encN l s (i + 1)))) [.mk (1) [] (2), .mk (1) (List.replicate (List.length (encN l s (i + 1)) * 1) PV.any) (3)] (.sem (((true = true) ∧ True ∧ (VW (Pv.idxL [1]) (r32_h0 iso shr EC l s i) (.int (IntKind.i64) (IntKind.wrap IntKind.i64 ((↑i : Int) + 1))) (.int (IntKind.i64) ((↑(i + 1) : Int))) ∧ (VW (Pv.idxL [1]) (r32_h0 iso shr EC l s i) (.lst (3) (List.map VD.pv l)) (.lst (3) (List.map VD.pv l)) ∧ (VW (Pv.idxL [1]) (r32_h0 iso shr EC l s i) (.cptr [.lst (1) (List.map ints (St.c s)), .lst (1) (List.map I (St.i s)), .lst (1) (List.map I (St.o s))]) (.cptr [.lst (1) (List.map ints (St.c s)), .lst (1) (List.map I (St.i s)), .lst (1) (List.map I (St.o s))]) ∧ (VW (Pv.idxL [1]) (r32_h0 iso shr EC l s i) (.own (1) (1) (List.map U8 (encN l s (i + 1)))) (.own (0) (1) (List.map U8 (encN l s (i + 1)))) ∧ True)))) ∧ (BW (Pv.idxL [1]) (r32_h0 iso shr EC l s i) (.mk (1) (List.replicate (List.length (encN l s (i + 1)) * 1) PV.any) (3)) (.mk (1) (List.replicate (List.length (encN l s (i + 1)) * 1) PV.any) (3)) ∧ True))) (.done (.mk (.normal) (.mk (.mk (36) [.mk (6) (.int (IntKind.i64) ((↑(i + 1) : Int))), .mk (0) (.lst (3) (List.map VD.pv l)), .mk (3) (.cptr [.lst (1) (List.map ints (St.c s)), .lst (1) (List.map I (St.i s)), .lst (1) (List.map I (St.o s))]), .mk (5) (.own (0) (1) (List.map U8 (encN l s (i + 1))))]) [.mk (1) (List.replicate (List.length (encN l s (i + 1)) * 1) PV.any) (3)]))))))))) (.sem (((.exit (0) : Pv.PE) = (.exit (0)))) (.sem (((true = true) ∧ True ∧ (VW (Pv.idxL [0]) (r32_h1 iso shr EC l s i) (.cptr [.lst (1) (List.map ints (St.c s)), .lst (1) (List.map I (St.i s)), .lst (1) (List.map I (St.o s))]) (.cptr [.lst (1) (List.map ints (St.c s)), .lst (1) (List.map I (St.i s)), .lst (1) (List.map I (St.o s))]) ∧ (VW (Pv.idxL [0]) (r32_h1 iso shr EC l s i) (.own (0) (1) (List.map U8 (encN l s i))) (.own (0) (1) (List.map U8 (encN l s (List.length l)))) ∧ True)) ∧ (BW (Pv.idxL [0]) (r32_h1 iso shr EC l s i) (.mk (1) (List.replicate (List.length (encN l s i) * 1) PV.any) (3)) (.mk (1) (List.replicate (List.length (encN l s (List.length l)) * 1) PV.any) (3)) ∧ True))) (.done (.mk (.exit (0)) (.mk (.mk (36) [.mk (3) (.cptr [.lst (1) (List.map ints (St.c s)), .lst (1) (List.map I (St.i s)), .lst (1) (List.map I (St.o s))]), .mk (5) (.own (0) (1) (List.map U8 (encN l s (List.length l))))]) [.mk (1) (List.replicate (List.length (encN l s (List.length l)) * 1) PV.any) (3)]))))) := by kernel_rfl
theorem t32 (iso : Nat → List PV → Option PV) (shr : Nat → List PV → List Pv.Box → Option (PV × List Pv.Box)) (EC : Bool → List Int → List Int) (l : List VD) (s : St) : wsh Try.prog X (Orc.mk iso shr (ownS X.sh) []) 32 40 Try.f32 [vars l, s.pv] [] (.k [(1000001)] [(0)] (.mk (.mk (36) [.mk (6) (.int (IntKind.i64) (0)), .mk (0) (.lst (3) (List.map VD.pv l)), .mk (3) (.cptr [.lst (1) (List.map ints (St.c s)), .lst (1) (List.map I (St.i s)), .lst (1) (List.map I (St.o s))]), .mk (5) (.own (0) (1) [])]) [.mk (1) [] (3)]) (.exit (0)) (.mk (.mk (36) [.mk (3) (.cptr [.lst (1) (List.map ints (St.c s)), .lst (1) (List.map I (St.i s)), .lst (1) (List.map I (St.o s))]), .mk (5) (.own (0) (1) (List.map U8 (encN l s (List.length l))))]) [.mk (1) (List.replicate (List.length (encN l s (List.length l)) * 1) PV.any) (3)]) (.n 2 (.w (.lst (1) (List.map U8 (EC true (St.i s)))) [.mk (1) (List.replicate (List.length (encN l s (List.length l)) * 1) PV.any) (3)] (.w (.own (1) (1) (List.map U8 (encN l s (List.length l) ++ EC true (St.i s)))) [.mk (1) [] (2), .mk (1) (List.replicate (List.length (encN l s (List.length l) ++ EC true (St.i s)) * 1) PV.any) (3)] (.n 2 (.w (.lst (1) (List.map U8 (EC true (St.o s)))) [.mk (1) [] (2), .mk (1) (List.replicate (List.length (encN l s (List.length l) ++ EC true (St.i s)) * 1) PV.any) (3)] (.w (.own (2) (1) (List.map U8 (encN l s (List.length l) ++ EC true (St.i s) ++ EC true (St.o s)))) [.mk (1) [] (2), .mk (1) [] (2), .mk (1) (List.replicate (List.length (encN l s (List.length l) ++ EC true (St.i s) ++ EC true (St.o s)) * 1) PV.any) (3)] (.e)))))))) = .sem (((true = true) ∧ frzOk [1000001] [] ∧ (VW (Pv.idxL [0]) [.mk (1) [] (3)] (.int (IntKind.i64) (0)) (.int (IntKind.i64) (0)) ∧ (VW (Pv.idxL [0]) [.mk (1) [] (3)] (.lst (3) (List.map VD.pv l)) (.lst (3) (List.map VD.pv l)) ∧ (VW (Pv.idxL [0]) [.mk (1) [] (3)] (.cptr [.lst (1) (List.map ints (St.c s)), .lst (1) (List.map I (St.i s)), .lst (1) (List.map I (St.o s))]) (.cptr [.lst (1) (List.map ints (St.c s)), .lst (1) (List.map I (St.i s)), .lst (1) (List.map I (St.o s))]) ∧ (VW (Pv.idxL [0]) [.mk (1) [] (3)] (.nils) (.own (0) (1) []) ∧ True)))) ∧ (BW (Pv.idxL [0]) [.mk (1) [] (3)] (.mk (1) [] (3)) (.mk (1) [] (3)) ∧ True))) (.sem (LoopOk Try.prog X.G 0 (lpB Try.f32 3) (.mk (.mk (36) [.mk (6) (.int (IntKind.i64) (0)), .mk (0) (.lst (3) (List.map VD.pv l)), .mk (3) (.cptr [.lst (1) (List.map ints (St.c s)), .lst (1) (List.map I (St.i s)), .lst (1) (List.map I (St.o s))]), .mk (5) (.own (0) (1) [])]) [.mk (1) [] (3)]) (.exit (0)) (.mk (.mk (36) [.mk (3) (.cptr [.lst (1) (List.map ints (St.c s)), .lst (1) (List.map I (St.i s)), .lst (1) (List.map I (St.o s))]), .mk (5) (.own (0) (1) (List.map U8 (encN l s (List.length l))))]) [.mk (1) (List.replicate (List.length (encN l s (List.length l)) * 1) PV.any) (3)])) (.eq ((pcallD (Orc.mk iso shr (ownS X.sh) []) (.fn (51) []) [(.lst (1) (List.map I (St.i s))), (.bool (true))] [.mk (1) (List.replicate (List.length (encN l s (List.length l)) * 1) PV.any) (3)]).map fun (v, more) => (v, [.mk (1) (List.replicate (List.length (encN l s (List.length l)) * 1) PV.any) (3)] ++ more)) (.lst (1) (List.map U8 (EC true (St.i s)))) [.mk (1) (List.replicate (List.length (encN l s (List.length l)) * 1) PV.any) (3)] (.eq (pappM true Try.prog [.mk (1) (List.replicate (List.length (encN l s (List.length l)) * 1) PV.any) (3)] (List.length ([.mk (1) (List.replicate (List.length (encN l s (List.length l)) * 1) PV.any) (3)] : List Pv.Box)) 55 55 (.own (0) (1) (List.map U8 (encN l s (List.length l)))) (.lst (1) (List.map U8 (EC true (St.i s))))) (.own (1) (1) (List.map U8 (encN l s (List.length l) ++ EC true (St.i s)))) [.mk (1) [] (2), .mk (1) (List.replicate (List.length (encN l s (List.length l) ++ EC true (St.i s)) * 1) PV.any) (3)] (.eq ((pcallD (Orc.mk iso shr (ownS X.sh) []) (.fn (51) []) [(.lst (1) (List.map I (St.o s))), (.bool (true))] [.mk (1) [] (2), .mk (1) (List.replicate (List.length (encN l s (List.length l) ++ EC true (St.i s)) * 1) PV.any) (3)]).map fun (v, more) => (v, [.mk (1) [] (2), .mk (1) (List.replicate (List.length (encN l s (List.length l) ++ EC true (St.i s)) * 1) PV.any) (3)] ++ more)) (.lst (1) (List.map U8 (EC true (St.o s)))) [.mk (1) [] (2), .mk (1) (List.replicate (List.length (encN l s (List.length l) ++ EC true (St.i s)) * 1) PV.any) (3)] (.eq (pappM true Try.prog [.mk (1) [] (2), .mk (1) (List.replicate (List.length (encN l s (List.length l) ++ EC true (St.i s)) * 1) PV.any) (3)] (List.length ([.mk (1) [] (2), .mk (1) (List.replicate (List.length (encN l s (List.length l) ++ EC true (St.i s)) * 1) PV.any) (3)] : List Pv.Box)) 55 55 (.own (1) (1) (List.map U8 (encN l s (List.length l) ++ EC true (St.i s)))) (.lst (1) (List.map U8 (EC true (St.o s))))) (.own (2) (1) (List.map U8 (encN l s (List.length l) ++ EC true (St.i s) ++ EC true (St.o s)))) [.mk (1) [] (2), .mk (1) [] (2), .mk (1) (List.replicate (List.length (encN l s (List.length l) ++ EC true (St.i s) ++ EC true (St.o s)) * 1) PV.any) (3)] (.done (.mk (.own (2) (1) (List.map U8 (encN l s (List.length l) ++ EC true (St.i s) ++ EC true (St.o s)))) [.mk (1) [] (2), .mk (1) [] (2), .mk (1) (List.replicate (List.length (encN l s (List.length l) ++ EC true (St.i s) ++ EC true (St.o s)) * 1) PV.any) (3)]))))))) := by kernel_rfl
theorem appL {α : Type} {f : α → PV} {T E : TypeId} {z : PV} {hp : List Pv.Box} {i : Nat} {A A' B : List α} (hA : A' = A ++ B) (hT : Try.prog.underlying T = some (.slice E)) (hs : szT Try.prog E = some 1) (hz : zeroP Try.prog E = some [z])
    (hby : bytesOk Try.prog E (A.length + B.length) = true) (ha : ∀ b, atomE (f b) = true) (hi : hp[i]? = some (tik 1 (A.length * 1))) :
    pappM true Try.prog hp hp.length T T (.own i 1 (List.map f A)) (.lst 1 (List.map f B)) = some (.own hp.length 1 (List.map f A'), hp.set i ⟨1, [], 2⟩ ++ [tik 1 (A'.length * 1)]) := by
  subst hA
  have h := pappO_own (P := Try.prog) (hp := hp) (T := T) (X := T) (i := i) (es := List.map f A) (t := .lst 1 (List.map f B)) hT hT hs hz rfl (by decide) telems_lst (by rw [List.all_eq_true]; intro x hx; obtain ⟨b, _, rfl⟩ := List.mem_map.1 hx; exact ha b) hi (by simp) (by rw [List.length_map, List.length_map]; exact hby)
  rw [h]
  simp only [List.length_map, List.map_append, List.length_append]
theorem beU_succ (x : Int) (i : Nat) : beU x (i + 1) = beU x i ++ [byU x (8 * (7 - (i : Int)))] := by unfold beU; rw [List.range_succ, List.map_append]; rfl
theorem beU_len (x : Int) (i : Nat) : (beU x i).length = i := by unfold beU; simp
theorem byU_eq (x : Int) (s : Nat) (h : s ≤ 64) : byU x (s : Int) = x % 18446744073709551616 / (2 ^ s) % 256 := by
  unfold byU
  rw [show min (s : Int).toNat 64 = s by omega, Int.fdiv_eq_ediv_of_nonneg _ (Int.le_of_lt (Int.pow_pos (by decide)))]
  simp only [IntKind.wrap_u8, IntKind.wrap_u64]
theorem beU_be (x : Int) : beU x 8 = be8 x := by
  rw [be8_eq]
  have e : beU x 8 = [byU x ((56 : Nat) : Int), byU x ((48 : Nat) : Int), byU x ((40 : Nat) : Int), byU x ((32 : Nat) : Int), byU x ((24 : Nat) : Int), byU x ((16 : Nat) : Int), byU x ((8 : Nat) : Int), byU x ((0 : Nat) : Int)] := rfl
  rw [e, byU_eq _ _ (by decide), byU_eq _ _ (by decide), byU_eq _ _ (by decide), byU_eq _ _ (by decide), byU_eq _ _ (by decide), byU_eq _ _ (by decide), byU_eq _ _ (by decide), byU_eq _ _ (by decide)]
  simp only [List.cons.injEq, and_true]
  refine ⟨?_, ?_, ?_, ?_, ?_, ?_, ?_, ?_⟩ <;> (simp only [Int.reducePow, Int.pow_zero]; omega)
theorem shr65 {x : Int} {i : Nat} {hp : List Pv.Box} (h : i < 8) : (pbin Try.prog BinOp.shr 96 false (.int .u64 (IntKind.wrap .u64 x)) (.int .i64 (IntKind.wrap .i64 (8 * (7 - (i : Int)))))).map (fun v => (v, hp)) = some (.int .u64 ((IntKind.wrap .u64 x).fdiv (2 ^ (min (8 * (7 - (i : Int))).toNat 64))), hp) := by
  have e : IntKind.wrap .i64 (8 * (7 - (i : Int))) = 8 * (7 - (i : Int)) := by rw [IntKind.wrap_i64]; omega
  rw [e]
  unfold pbin pshift
  simp only
  rw [if_neg (by omega)]; rfl
def hd65 (x : Int) (m : Nat) (i : Nat) : PS := ⟨⟨19, [(4, .int .i64 (7 - ((i : Nat) : Int))), (0, .int .i64 x), (3, .own 0 1 (List.map U8 (beU x i)))]⟩, [tik 1 ((beU x i).length * 1)]⟩
def en65 (x : Int) (m : Nat) : PS := ⟨⟨19, [(3, bts (beU x m))]⟩, []⟩
theorem lp65 (iso : Nat → List PV → Option PV) (shr : Nat → List PV → List Pv.Box → Option (PV × List Pv.Box)) (hC : OrcOk Try.prog X.G ⟨iso, shr, ownS X.sh, []⟩)  (x : Int) (m : Nat) (hm : m = 8) : LoopOk Try.prog X.G 0 (lpB Try.f65 3) (hd65 x m 0) (.exit 0) (en65 x m) := by
  refine (loop_first (S := hd65 x m) (m := m) (c := fun _ => true) (e1 := fun i => (.ret, hd65 x m i)) (e2 := (.exit 0, en65 x m)) (fun i hi _ ep sp nx => ?_) (fun i hi hc => by cases hc) ?_).1 (fun _ _ => rfl)
  · refine round_ok env.mixed hC (by kernel_rfl) (r65 iso shr x m i) ?_
    simp only [Holds, Pv.Next]
    have hs := beU_succ x i
    have hn := beU_len x i
    refine ⟨fun h0 => ?_, fun h0 => ?_⟩
    · have g0 := of_decide_eq_true h0
      try simp only [List.length_map] at g0
      refine ⟨?_, ?_⟩
      · exact shr65 (by omega)
      refine ⟨?_, ?_⟩
      · exact appX (f := U8) hs Try.underlying55 sz5 z5 (bytes5 (by omega)) rfl rfl rfl rfl
      refine ⟨?_, ?_⟩
      · (exact ⟨trivial, (by trivial), ⟨(by (exact VW.int (by (rw [IntKind.wrap_i64]; omega)))), (by exact VW.int rfl), (by exact VW.own rfl rfl rfl), trivial⟩, ⟨(by exact BW.tik rfl rfl), trivial⟩⟩)
      exact nx
    · have g0 := of_decide_eq_false h0
      try simp only [List.length_map] at g0
      refine ⟨by trivial, ?_⟩
      refine ⟨?_, ?_⟩
      · (omega)
      (omega)
  · refine round_ok env.mixed hC (by kernel_rfl) (r65 iso shr x m (m)) ?_
    simp only [Holds, Pv.Next]
    have hs := beU_succ x (m)
    have hn := beU_len x (m)
    refine ⟨fun h0 => ?_, fun h0 => ?_⟩
    · have g0 := of_decide_eq_true h0
      try simp only [List.length_map] at g0
      refine ⟨?_, ?_⟩
      · exact shr65 (by omega)
      refine ⟨?_, ?_⟩
      · exact appX (f := U8) hs Try.underlying55 sz5 z5 (bytes5 (by omega)) rfl rfl rfl rfl
      refine ⟨?_, ?_⟩
      · (exact ⟨trivial, (by trivial), ⟨(by (exact VW.int (by (rw [IntKind.wrap_i64]; omega)))), (by exact VW.int rfl), (by exact VW.own rfl rfl rfl), trivial⟩, ⟨(by exact BW.tik rfl rfl), trivial⟩⟩)
      (omega)
    · have g0 := of_decide_eq_false h0
      try simp only [List.length_map] at g0
      refine ⟨by trivial, ?_⟩
      refine ⟨?_, ?_⟩
      · exact ⟨trivial, (by trivial), ⟨(by exact VW.ol rfl rfl), trivial⟩, trivial⟩
      exact ⟨trivial, rfl⟩
theorem ok65m  (x : Int) (m : Nat) (hm : m = 8) : Ok Try.prog X.G 65 [.int .i64 x] (bts (be8 x)) := by
  obtain ⟨iso, shr, hC⟩ : ∃ iso shr, OrcOk Try.prog X.G ⟨iso, shr, ownS X.sh, []⟩ := ⟨_, _, iso0⟩
  refine wok env hC fd65 (t65 iso shr x m) ?_ hhS
  simp only [Holds]
  refine ⟨?_, ?_⟩
  · exact ⟨trivial, (by trivial), ⟨(by exact VW.int rfl), (by exact VW.int rfl), (by exact VW.no rfl), trivial⟩, ⟨(by exact BW.flat rfl (fun c hc => by simp at hc)), trivial⟩⟩
  refine ⟨?_, ?_⟩
  · exact lp65 iso shr hC x m hm
  ((subst hm; rw [← beU_be]; exact ⟨_, _, rfl, Sub.refl _⟩))
theorem ok65 (x : Int) : Ok Try.prog X.G 65 [.int .i64 x] (bts (be8 x)) := ok65m x 8 rfl
theorem ld1 : ∃ (iso : Nat → List PV → Option PV) (shr : Nat → List PV → List Pv.Box → Option (PV × List Pv.Box)), OrcOk Try.prog X.G ⟨iso, shr, ownS X.sh, []⟩ ∧ (∀ (x : Int), iso 65 [.int .i64 x] = some (bts (be8 x))) := by
  obtain ⟨h65, e65, o65⟩ := ent_ex (fun q : Int => True) (fun q => ([.int .i64 (q)], bts (be8 (q)))) (fun a b h => by simp only [List.cons.injEq, ints_inj, cells_inj, vars_inj, VD_inj, St_inj, PV.int.injEq, rd_inj, bts_inj, and_true, true_and] at h; simp only [h])
  have hT : TabOk Try.prog X.G [(65, h65)] := tk (fun l r e => by obtain ⟨a, ha, rfl, rfl⟩ := o65 l r e; exact ok65 (a)) tn
  have hS : TabSOk Try.prog X.G [] := tn'
  exact ⟨_, _, orcS hT hS, fun x  => e65 x trivial⟩
def hd51 (E8 : Int → List Int) (l : List Int) (p : List Int) (i : Nat) : PS := ⟨⟨33, [(6, .int .i64 ((i : Nat) : Int)), (0, ints l), (5, .own 0 1 (List.map U8 (p ++ bes (l.take i))))]⟩, [tik 1 ((p ++ bes (l.take i)).length * 1)]⟩
def en51 (E8 : Int → List Int) (l : List Int) (p : List Int) : PS := ⟨⟨33, [(5, bts (p ++ bes l))]⟩, []⟩
theorem lp51 (iso : Nat → List PV → Option PV) (shr : Nat → List PV → List Pv.Box → Option (PV × List Pv.Box)) (hC : OrcOk Try.prog X.G ⟨iso, shr, ownS X.sh, []⟩) (e65 : ∀ (x : Int), iso 65 [.int .i64 x] = some (bts (be8 x))) (E8 : Int → List Int) (l : List Int) (p : List Int) (hE : E8 = be8) (hl : l.length ≤ 4096) (hp : p.length ≤ 2) : LoopOk Try.prog X.G 0 (lpB Try.f51 5) (hd51 E8 l p 0) (.exit 0) (en51 E8 l p) := by
  refine (loop_first (S := hd51 E8 l p) (m := l.length) (c := fun _ => true) (e1 := fun i => (.ret, hd51 E8 l p i)) (e2 := (.exit 0, en51 E8 l p)) (fun i hi _ ep sp nx => ?_) (fun i hi hc => by cases hc) ?_).1 (fun _ _ => rfl)
  · refine round_ok env.mixed hC (by kernel_rfl) (r51 iso shr E8 l p i) ?_
    simp only [Holds, Pv.Next]
    subst hE
    have hbt : i < l.length → bes (l.take (i + 1)) = bes (l.take i) ++ be8 (l.getD i 0) := bes_take
    have hz : (p ++ bes (l.take i)).length ≤ 40000 := by rw [List.length_append, bes_len, List.length_take]; omega
    refine ⟨fun h0 => ?_, fun h0 => ?_⟩
    · have g0 := of_decide_eq_true h0
      try simp only [List.length_map] at g0
      refine ⟨?_, ?_⟩
      · exact px23 (by omega)
      refine ⟨?_, ?_⟩
      · exact pcallv_iso rfl rfl (e65 _)
      refine ⟨?_, ?_⟩
      · (exact appL (f := U8) (by rw [hbt (by omega), List.append_assoc]) Try.underlying55 sz5 z5 (bytes5 (by rw [be8_len]; omega)) (fun _ => rfl) rfl)
      refine ⟨?_, ?_⟩
      · exact ⟨trivial, (by trivial), ⟨(by exact VW.int (wsucc (by omega))), (by exact VW.lst rfl rfl), (by exact VW.own rfl rfl rfl), trivial⟩, ⟨(by exact BW.tik rfl rfl), trivial⟩⟩
      exact nx
    · have g0 := of_decide_eq_false h0
      try simp only [List.length_map] at g0
      refine ⟨by trivial, ?_⟩
      refine ⟨?_, ?_⟩
      · (omega)
      (omega)
  · refine round_ok env.mixed hC (by kernel_rfl) (r51 iso shr E8 l p (l.length)) ?_
    simp only [Holds, Pv.Next]
    subst hE
    have hbt : (l.length) < l.length → bes (l.take ((l.length) + 1)) = bes (l.take (l.length)) ++ be8 (l.getD (l.length) 0) := bes_take
    have hz : (p ++ bes (l.take (l.length))).length ≤ 40000 := by rw [List.length_append, bes_len, List.length_take]; omega
    refine ⟨fun h0 => ?_, fun h0 => ?_⟩
    · have g0 := of_decide_eq_true h0
      try simp only [List.length_map] at g0
      refine ⟨?_, ?_⟩
      · exact px23 (by omega)
      refine ⟨?_, ?_⟩
      · exact pcallv_iso rfl rfl (e65 _)
      refine ⟨?_, ?_⟩
      · (exact appL (f := U8) (by rw [hbt (by omega), List.append_assoc]) Try.underlying55 sz5 z5 (bytes5 (by rw [be8_len]; omega)) (fun _ => rfl) rfl)
      refine ⟨?_, ?_⟩
      · exact ⟨trivial, (by trivial), ⟨(by exact VW.int (wsucc (by omega))), (by exact VW.lst rfl rfl), (by exact VW.own rfl rfl rfl), trivial⟩, ⟨(by exact BW.tik rfl rfl), trivial⟩⟩
      (omega)
    · have g0 := of_decide_eq_false h0
      try simp only [List.length_map] at g0
      refine ⟨by trivial, ?_⟩
      refine ⟨?_, ?_⟩
      · exact ⟨trivial, (by trivial), ⟨(by exact VW.ol rfl (by (rw [List.take_length]))), trivial⟩, trivial⟩
      exact ⟨trivial, rfl⟩
theorem be2_nat (n : Nat) (h : n ≤ 4096) : be2 (n : Int) = [IntKind.wrap .u8 (IntKind.wrap .i64 ((n : Int).tdiv 256)), IntKind.wrap .u8 ((n : Int).tmod 256)] := by
  rw [be2_eq, Int.tdiv_eq_ediv_of_nonneg (by omega), Int.tmod_eq_emod_of_nonneg (by omega)]
  simp only [IntKind.wrap_i64, IntKind.wrap_u8, List.cons.injEq, and_true]
  omega
theorem app18 (a b : Int) : pappM true Try.prog [⟨1, [U8 a, U8 b], 0⟩] (List.length [(⟨1, [U8 a, U8 b], 0⟩ : Pv.Box)]) 55 55 .nils (.sl 0 1 0 2) = some (.own 1 1 (List.map U8 [a, b]), [⟨1, [U8 a, U8 b], 0⟩, tik 1 2]) := by kernel_rfl
theorem ok51t  (l : List Int) (p : List Int) (hp : p = be2 (l.length : Int)) (hl : l.length ≤ 4096) : Ok Try.prog X.G 51 [ints l, .bool true] (bts (encC true l)) := by
  obtain ⟨iso, shr, hC, e65⟩ := ld1
  have hb2 := be2_nat l.length hl
  refine wok env hC fd51 (t51t iso shr l p) ?_ hhS
  simp only [Holds]
  refine ⟨?_, ?_⟩
  · ((rw [hp, List.length_map, hb2]; exact app18 _ _))
  refine ⟨?_, ?_⟩
  · exact ⟨trivial, (by trivial), ⟨(by exact VW.int rfl), (by exact VW.lst rfl rfl), (by exact VW.own rfl rfl (by simp [bes])), trivial⟩, ⟨(by exact BW.tik rfl (by simp [bes])), trivial⟩⟩
  refine ⟨?_, ?_⟩
  · (exact lp51 iso shr hC e65 be8 l p rfl hl (by rw [hp, be2_len]; exact Nat.le_refl _))
  ((subst hp; exact ⟨_, _, rfl, Sub.refl _⟩))
theorem ok51f  (l : List Int) (p : List Int) (hp : p = []) (hl : l.length ≤ 4096) : Ok Try.prog X.G 51 [ints l, .bool false] (bts (encC false l)) := by
  obtain ⟨iso, shr, hC, e65⟩ := ld1
  have hp0 : List.map U8 (p ++ bes (l.take 0)) = [] := by rw [hp]; rfl
  refine wok env hC fd51 (t51f iso shr l p) ?_ hhS
  simp only [Holds]
  refine ⟨?_, ?_⟩
  · (exact ⟨trivial, (by trivial), ⟨(by exact VW.int rfl), (by exact VW.lst rfl rfl), (by exact VW.no hp0), trivial⟩, ⟨(by (exact BW.flat (by rw [hp]; rfl) (fun c hc => by rw [hp] at hc; simp [bes] at hc))), trivial⟩⟩)
  refine ⟨?_, ?_⟩
  · (exact lp51 iso shr hC e65 be8 l p rfl hl (by rw [hp]; decide))
  ((subst hp; exact ⟨_, _, rfl, Sub.refl _⟩))
theorem ok51 (l : List Int) (c : Bool) (hl : l.length ≤ 4096) : Ok Try.prog X.G 51 [ints l, .bool c] (bts (encC c l)) := by cases c; exact ok51f l _ rfl hl; exact ok51t l _ rfl hl
theorem bool_inj {a b : Bool} : PV.bool a = PV.bool b ↔ a = b := by simp
theorem ld2 : ∃ (iso : Nat → List PV → Option PV) (shr : Nat → List PV → List Pv.Box → Option (PV × List Pv.Box)), OrcOk Try.prog X.G ⟨iso, shr, ownS X.sh, []⟩ ∧ (∀ (l : List Int) (c : Bool), l.length ≤ 4096 → iso 51 [ints l, .bool c] = some (bts (encC c l))) := by
  obtain ⟨h51, e51, o51⟩ := ent_ex (fun q : (List Int) × (Bool) => (q.1).length ≤ 4096) (fun q => ([ints (q.1), .bool (q.2)], bts (encC (q.2) (q.1)))) (fun a b h => by simp only [List.cons.injEq, ints_inj, cells_inj, vars_inj, VD_inj, St_inj, PV.int.injEq, rd_inj, bts_inj, bool_inj, and_true, true_and] at h; simp only [h])
  have hT : TabOk Try.prog X.G [(51, h51)] := tk (fun l r e => by obtain ⟨a, ha, rfl, rfl⟩ := o51 l r e; exact ok51 (a.1) (a.2) ha) tn
  have hS : TabSOk Try.prog X.G [] := tn'
  exact ⟨_, _, orcS hT hS, fun l c hp => e51 (l, c) hp⟩
theorem encC_len (c : Bool) (l : List Int) : (encC c l).length ≤ 2 + 8 * l.length := by
  unfold encC
  rw [List.length_append, bes_len]
  split
  · rw [be2_len]; omega
  · simp
theorem encN_t {l : List VD} {s : St} {i : Nat} (h : VD.k (l.getD i default) = 3) : encN l s (i + 1) = encN l s i ++ encC true (s.c.getD i default) := by
  rw [encN_succ]; unfold encV encC; rw [if_pos h, if_pos rfl]
theorem encN_f {l : List VD} {s : St} {i : Nat} (h : ¬ VD.k (l.getD i default) = 3) : encN l s (i + 1) = encN l s i ++ encC false (s.c.getD i default) := by
  rw [encN_succ]; unfold encV encC; rw [if_neg h, if_neg (by decide)]
def hd32 (EC : Bool → List Int → List Int) (l : List VD) (s : St) (i : Nat) : PS := ⟨⟨36, [(6, .int .i64 ((i : Nat) : Int)), (0, vars l), (3, .cptr (St.cs s)), (5, .own 0 1 (List.map U8 (encN l s i)))]⟩, [tik 1 ((encN l s i).length * 1)]⟩
def en32 (EC : Bool → List Int → List Int) (l : List VD) (s : St) : PS := ⟨⟨36, [(3, .cptr (St.cs s)), (5, .own 0 1 (List.map U8 (encN l s l.length)))]⟩, [tik 1 ((encN l s l.length).length * 1)]⟩
theorem lp32 (iso : Nat → List PV → Option PV) (shr : Nat → List PV → List Pv.Box → Option (PV × List Pv.Box)) (hC : OrcOk Try.prog X.G ⟨iso, shr, ownS X.sh, []⟩) (e51 : ∀ (l : List Int) (c : Bool), l.length ≤ 4096 → iso 51 [ints l, .bool c] = some (bts (encC c l))) (EC : Bool → List Int → List Int) (l : List VD) (s : St) (hE : EC = encC) (hl : l.length ≤ 32) (hsl : s.c.length = l.length) (h60 : ∀ i, (s.c.getD i default).length ≤ 4096) : LoopOk Try.prog X.G 0 (lpB Try.f32 3) (hd32 EC l s 0) (.exit 0) (en32 EC l s) := by
  refine (loop_first (S := hd32 EC l s) (m := l.length) (c := fun _ => true) (e1 := fun i => (.ret, hd32 EC l s i)) (e2 := (.exit 0, en32 EC l s)) (fun i hi _ ep sp nx => ?_) (fun i hi hc => by cases hc) ?_).1 (fun _ _ => rfl)
  · refine round_ok env.mixed hC (by kernel_rfl) (r32 iso shr EC l s i) ?_
    simp only [Holds, Pv.Next]
    subst hE
    have hN := encN_len (l := l) h60 i
    have hc6 := h60 i
    have hct := encC_len true (s.c.getD i default)
    have hcf := encC_len false (s.c.getD i default)
    refine ⟨fun h0 => ?_, fun h0 => ?_⟩
    · have g0 := of_decide_eq_true h0
      try simp only [List.length_map] at g0
      refine ⟨?_, ?_⟩
      · exact px25 (by omega)
      refine ⟨?_, ?_⟩
      · exact px22 (by omega)
      refine ⟨fun h1 => ?_, fun h1 => ?_⟩
      · have g1 := beq_iff_eq.1 h1
        try simp only [List.length_map] at g1
        refine ⟨?_, ?_⟩
        · (exact pcallD_iso rfl rfl (by rw [← h1]; exact e51 _ _ hc6))
        refine ⟨?_, ?_⟩
        · exact appL (f := U8) (encN_t (by assumption)) Try.underlying55 sz5 z5 (bytes5 (by omega)) (fun _ => rfl) rfl
        refine ⟨?_, ?_⟩
        · exact ⟨trivial, (by trivial), ⟨(by exact VW.int (wsucc (by omega))), (by exact VW.lst rfl rfl), (by exact VW.cptr rfl), (by exact VW.own rfl rfl rfl), trivial⟩, ⟨(by exact BW.tik rfl rfl), trivial⟩⟩
        exact nx
      · have g1 := beq_eq_false_iff_ne.1 h1
        try simp only [List.length_map] at g1
        refine ⟨?_, ?_⟩
        · (exact pcallD_iso rfl rfl (by rw [← h1]; exact e51 _ _ hc6))
        refine ⟨?_, ?_⟩
        · exact appL (f := U8) (encN_f (by assumption)) Try.underlying55 sz5 z5 (bytes5 (by omega)) (fun _ => rfl) rfl
        refine ⟨?_, ?_⟩
        · exact ⟨trivial, (by trivial), ⟨(by exact VW.int (wsucc (by omega))), (by exact VW.lst rfl rfl), (by exact VW.cptr rfl), (by exact VW.own rfl rfl rfl), trivial⟩, ⟨(by exact BW.tik rfl rfl), trivial⟩⟩
        exact nx
    · have g0 := of_decide_eq_false h0
      try simp only [List.length_map] at g0
      refine ⟨by trivial, ?_⟩
      refine ⟨?_, ?_⟩
      · (omega)
      (omega)
  · refine round_ok env.mixed hC (by kernel_rfl) (r32 iso shr EC l s (l.length)) ?_
    simp only [Holds, Pv.Next]
    subst hE
    have hN := encN_len (l := l) h60 (l.length)
    have hc6 := h60 (l.length)
    have hct := encC_len true (s.c.getD (l.length) default)
    have hcf := encC_len false (s.c.getD (l.length) default)
    refine ⟨fun h0 => ?_, fun h0 => ?_⟩
    · have g0 := of_decide_eq_true h0
      try simp only [List.length_map] at g0
      refine ⟨?_, ?_⟩
      · exact px25 (by omega)
      refine ⟨?_, ?_⟩
      · exact px22 (by omega)
      refine ⟨fun h1 => ?_, fun h1 => ?_⟩
      · have g1 := beq_iff_eq.1 h1
        try simp only [List.length_map] at g1
        refine ⟨?_, ?_⟩
        · (exact pcallD_iso rfl rfl (by rw [← h1]; exact e51 _ _ hc6))
        refine ⟨?_, ?_⟩
        · exact appL (f := U8) (encN_t (by assumption)) Try.underlying55 sz5 z5 (bytes5 (by omega)) (fun _ => rfl) rfl
        refine ⟨?_, ?_⟩
        · exact ⟨trivial, (by trivial), ⟨(by exact VW.int (wsucc (by omega))), (by exact VW.lst rfl rfl), (by exact VW.cptr rfl), (by exact VW.own rfl rfl rfl), trivial⟩, ⟨(by exact BW.tik rfl rfl), trivial⟩⟩
        (omega)
      · have g1 := beq_eq_false_iff_ne.1 h1
        try simp only [List.length_map] at g1
        refine ⟨?_, ?_⟩
        · (exact pcallD_iso rfl rfl (by rw [← h1]; exact e51 _ _ hc6))
        refine ⟨?_, ?_⟩
        · exact appL (f := U8) (encN_f (by assumption)) Try.underlying55 sz5 z5 (bytes5 (by omega)) (fun _ => rfl) rfl
        refine ⟨?_, ?_⟩
        · exact ⟨trivial, (by trivial), ⟨(by exact VW.int (wsucc (by omega))), (by exact VW.lst rfl rfl), (by exact VW.cptr rfl), (by exact VW.own rfl rfl rfl), trivial⟩, ⟨(by exact BW.tik rfl rfl), trivial⟩⟩
        (omega)
    · have g0 := of_decide_eq_false h0
      try simp only [List.length_map] at g0
      refine ⟨by trivial, ?_⟩
      refine ⟨?_, ?_⟩
      · exact ⟨trivial, (by trivial), ⟨(by exact VW.cptr rfl), (by exact VW.own rfl rfl rfl), trivial⟩, ⟨(by exact BW.tik rfl rfl), trivial⟩⟩
      exact ⟨trivial, rfl⟩
theorem ok32m  (EC : Bool → List Int → List Int) (l : List VD) (s : St) (hE : EC = encC) (hl : l.length ≤ 32) (hsl : s.c.length = l.length) (h : s.i.length ≤ 4096 ∧ s.o.length ≤ 4096 ∧ ∀ i, (s.c.getD i default).length ≤ 4096) : Ok Try.prog X.G 32 [vars l, s.pv] (bts (enc l s)) := by
  obtain ⟨iso, shr, hC, e51⟩ := ld2
  have hN := encN_len (l := l) h.2.2 l.length
  have h1 : (EC true s.i).length ≤ 2 + 8 * s.i.length := by rw [hE]; exact encC_len true s.i
  have h2 : (EC true s.o).length ≤ 2 + 8 * s.o.length := by rw [hE]; exact encC_len true s.o
  obtain ⟨g1, g2, g3⟩ := h
  refine wok env hC fd32 (t32 iso shr EC l s) ?_ hhS
  simp only [Holds]
  refine ⟨?_, ?_⟩
  · exact ⟨trivial, (by trivial), ⟨(by exact VW.int rfl), (by exact VW.lst rfl rfl), (by exact VW.cptr rfl), (by exact VW.no rfl), trivial⟩, ⟨(by exact BW.flat rfl (fun c hc => by simp at hc)), trivial⟩⟩
  refine ⟨?_, ?_⟩
  · exact lp32 iso shr hC e51 EC l s hE hl hsl g3
  refine ⟨?_, ?_⟩
  · (exact pcallD_iso rfl rfl (by rw [hE]; exact e51 _ _ g1))
  refine ⟨?_, ?_⟩
  · (exact appL (f := U8) rfl Try.underlying55 sz5 z5 (bytes5 (by (try rw [List.length_append]); omega)) (fun _ => rfl) rfl)
  refine ⟨?_, ?_⟩
  · (exact pcallD_iso rfl rfl (by rw [hE]; exact e51 _ _ g2))
  refine ⟨?_, ?_⟩
  · (exact appL (f := U8) rfl Try.underlying55 sz5 z5 (bytes5 (by (try rw [List.length_append]); omega)) (fun _ => rfl) rfl)
  ((have e : enc l s = (encN l s l.length ++ encC true s.i) ++ encC true s.o := by simp [enc, encC, List.append_assoc]); (rw [e, ← hE]; exact ⟨_, _, rfl, Sub.refl _⟩))
theorem ok32 (l : List VD) (s : St) (hl : l.length ≤ 32) (hsl : s.c.length = l.length) (h : s.i.length ≤ 4096 ∧ s.o.length ≤ 4096 ∧ ∀ i, (s.c.getD i default).length ≤ 4096) : Ok Try.prog X.G 32 [vars l, s.pv] (bts (enc l s)) := ok32m encC l s rfl hl hsl h
end Go.Proofs.Ytmkpdbofhpffaaa
