/- Encoding and decoding a state. -/
import Derived.Test.YtmkpdbofhpffaaaSi
namespace Go.Proofs.Ytmkpdbofhpffaaa
open Go.Proofs.Ytmkpdbofhpffaaa.Pv Go.RowKit
set_option maxRecDepth 100000
set_option maxHeartbeats 4000000
set_option linter.unusedSimpArgs false
set_option linter.unusedVariables false
set_option maxHeartbeats 2000000
def eqb10 (x y : List Int) : Bool := (sB x).toList == (sB y).toList
theorem t10 (iso : Nat → List PV → Option PV) (shr : Nat → List PV → List Pv.Box → Option (PV × List Pv.Box)) (l : List VD) (s : St) : wsh Try.prog X (Orc.mk iso shr (ownS X.sh) []) 10 40 Try.f10 [vars l, s.pv] [] (.w (.bool (true)) [] (.n 1 (.s (.e) (.n 1 (.w (.int (IntKind.i64) (sml s)) [] (.s (.e) (.n 1 (.w (.tup [.lst (1) (List.map U8 (encR l s)), .int (IntKind.i64) (encE l s)]) [] (.n 3 (.c (fitV l s) (.v (.bool (true)) (.w (.tup [.agg [.lst (1) (List.map ints (St.c (decS l (encR l s)))), .lst (1) (List.map I (St.i (decS l (encR l s)))), .lst (1) (List.map I (St.o (decS l (encR l s))))], .int (IntKind.i64) (decE l (encR l s))]) [] (.n 3 (.s (.v (.str (sB (encR l s))) (.n 1 (.w (.lst (1) (List.map U8 (enc l s))) [.mk (3) [.lst (1) (List.map ints (St.c (decS l (encR l s)))), .lst (1) (List.map I (St.i (decS l (encR l s)))), .lst (1) (List.map I (St.o (decS l (encR l s))))] (0)] (.v (.str (sB (enc l s))) (.s (.s (.n 2 (.c (decide (decS l (encR l s) = s)) (.v (.bool (true)) (.e)) (.v (.bool (false)) (.e)))) (.e)) (.e)))))) (.e))))) (.v (.bool (false)) (.s (.n 1 (.s (.e) (.e))) (.e))))))))))))) = .eq (pcallv (Orc.mk iso shr (ownS X.sh) []) (.fn (13) []) [] []) (.bool (true)) [] (.ask (decide ((↑(List.length (List.map VD.pv l)) : Int) > 40)) (.done (.mk (.bool (true)) [])) (.eq (pcallv (Orc.mk iso shr (ownS X.sh) []) (.fn (20) []) [(.agg [.lst (1) (List.map ints (St.c s)), .lst (1) (List.map I (St.i s)), .lst (1) (List.map I (St.o s))])] []) (.int (IntKind.i64) (sml s)) [] (.ask (sml s == 0) (.done (.mk (.bool (true)) [])) (.eq (pcallv (Orc.mk iso shr (ownS X.sh) []) (.fn (30) []) [(.lst (3) (List.map VD.pv l)), (.agg [.lst (1) (List.map ints (St.c s)), .lst (1) (List.map I (St.i s)), .lst (1) (List.map I (St.o s))])] []) (.tup [.lst (1) (List.map U8 (encR l s)), .int (IntKind.i64) (encE l s)]) [] (.ask (fitV l s) (.eq (pcallv (Orc.mk iso shr (ownS X.sh) []) (.fn (18) []) [(.lst (3) (List.map VD.pv l)), (.agg [.lst (1) (List.map ints (St.c s)), .lst (1) (List.map I (St.i s)), .lst (1) (List.map I (St.o s))])] []) (.bool (true)) [] (.eq (pcallv (Orc.mk iso shr (ownS X.sh) []) (.fn (31) []) [(.lst (3) (List.map VD.pv l)), (.lst (1) (List.map U8 (encR l s)))] []) (.tup [.agg [.lst (1) (List.map ints (St.c (decS l (encR l s)))), .lst (1) (List.map I (St.i (decS l (encR l s)))), .lst (1) (List.map I (St.o (decS l (encR l s))))], .int (IntKind.i64) (decE l (encR l s))]) [] (.ask (encE l s == 0) (.eq ((pconvM Try.prog [.mk (3) [.lst (1) (List.map ints (St.c (decS l (encR l s)))), .lst (1) (List.map I (St.i (decS l (encR l s)))), .lst (1) (List.map I (St.o (decS l (encR l s))))] (0)] 55 9 (.lst (1) (List.map U8 (encR l s)))).map fun v => (v, [.mk (3) [.lst (1) (List.map ints (St.c (decS l (encR l s)))), .lst (1) (List.map I (St.i (decS l (encR l s)))), .lst (1) (List.map I (St.o (decS l (encR l s))))] (0)])) (.str (sB (encR l s))) [.mk (3) [.lst (1) (List.map ints (St.c (decS l (encR l s)))), .lst (1) (List.map I (St.i (decS l (encR l s)))), .lst (1) (List.map I (St.o (decS l (encR l s))))] (0)] (.eq ((pcallD (Orc.mk iso shr (ownS X.sh) []) (.fn (32) []) [(.lst (3) (List.map VD.pv l)), (.agg [.lst (1) (List.map ints (St.c s)), .lst (1) (List.map I (St.i s)), .lst (1) (List.map I (St.o s))])] [.mk (3) [.lst (1) (List.map ints (St.c (decS l (encR l s)))), .lst (1) (List.map I (St.i (decS l (encR l s)))), .lst (1) (List.map I (St.o (decS l (encR l s))))] (0)]).map fun (v, more) => (v, [.mk (3) [.lst (1) (List.map ints (St.c (decS l (encR l s)))), .lst (1) (List.map I (St.i (decS l (encR l s)))), .lst (1) (List.map I (St.o (decS l (encR l s))))] (0)] ++ more)) (.lst (1) (List.map U8 (enc l s))) [.mk (3) [.lst (1) (List.map ints (St.c (decS l (encR l s)))), .lst (1) (List.map I (St.i (decS l (encR l s)))), .lst (1) (List.map I (St.o (decS l (encR l s))))] (0)] (.eq ((pconvM Try.prog [.mk (3) [.lst (1) (List.map ints (St.c (decS l (encR l s)))), .lst (1) (List.map I (St.i (decS l (encR l s)))), .lst (1) (List.map I (St.o (decS l (encR l s))))] (0)] 55 9 (.lst (1) (List.map U8 (enc l s)))).map fun v => (v, [.mk (3) [.lst (1) (List.map ints (St.c (decS l (encR l s)))), .lst (1) (List.map I (St.i (decS l (encR l s)))), .lst (1) (List.map I (St.o (decS l (encR l s))))] (0)])) (.str (sB (enc l s))) [.mk (3) [.lst (1) (List.map ints (St.c (decS l (encR l s)))), .lst (1) (List.map I (St.i (decS l (encR l s)))), .lst (1) (List.map I (St.o (decS l (encR l s))))] (0)] (.ask (ByteArray.toList (sB (encR l s)) == ByteArray.toList (sB (enc l s))) (.ask (decE l (encR l s) == 0) (.ask (decide (decS l (encR l s) = s)) (.eq ((pcallD (Orc.mk iso shr (ownS X.sh) []) (.fn (16) []) [(.agg [.lst (1) (List.map ints (St.c (decS l (encR l s)))), .lst (1) (List.map I (St.i (decS l (encR l s)))), .lst (1) (List.map I (St.o (decS l (encR l s))))]), (.agg [.lst (1) (List.map ints (St.c s)), .lst (1) (List.map I (St.i s)), .lst (1) (List.map I (St.o s))])] [.mk (3) [.lst (1) (List.map ints (St.c (decS l (encR l s)))), .lst (1) (List.map I (St.i (decS l (encR l s)))), .lst (1) (List.map I (St.o (decS l (encR l s))))] (0)]).map fun (v, more) => (v, [.mk (3) [.lst (1) (List.map ints (St.c (decS l (encR l s)))), .lst (1) (List.map I (St.i (decS l (encR l s)))), .lst (1) (List.map I (St.o (decS l (encR l s))))] (0)] ++ more)) (.bool (true)) [.mk (3) [.lst (1) (List.map ints (St.c (decS l (encR l s)))), .lst (1) (List.map I (St.i (decS l (encR l s)))), .lst (1) (List.map I (St.o (decS l (encR l s))))] (0)] (.done (.mk (.bool (true)) [.mk (3) [.lst (1) (List.map ints (St.c (decS l (encR l s)))), .lst (1) (List.map I (St.i (decS l (encR l s)))), .lst (1) (List.map I (St.o (decS l (encR l s))))] (0)]))) (.eq ((pcallD (Orc.mk iso shr (ownS X.sh) []) (.fn (16) []) [(.agg [.lst (1) (List.map ints (St.c (decS l (encR l s)))), .lst (1) (List.map I (St.i (decS l (encR l s)))), .lst (1) (List.map I (St.o (decS l (encR l s))))]), (.agg [.lst (1) (List.map ints (St.c s)), .lst (1) (List.map I (St.i s)), .lst (1) (List.map I (St.o s))])] [.mk (3) [.lst (1) (List.map ints (St.c (decS l (encR l s)))), .lst (1) (List.map I (St.i (decS l (encR l s)))), .lst (1) (List.map I (St.o (decS l (encR l s))))] (0)]).map fun (v, more) => (v, [.mk (3) [.lst (1) (List.map ints (St.c (decS l (encR l s)))), .lst (1) (List.map I (St.i (decS l (encR l s)))), .lst (1) (List.map I (St.o (decS l (encR l s))))] (0)] ++ more)) (.bool (false)) [.mk (3) [.lst (1) (List.map ints (St.c (decS l (encR l s)))), .lst (1) (List.map I (St.i (decS l (encR l s)))), .lst (1) (List.map I (St.o (decS l (encR l s))))] (0)] (.done (.mk (.bool (false)) [.mk (3) [.lst (1) (List.map ints (St.c (decS l (encR l s)))), .lst (1) (List.map I (St.i (decS l (encR l s)))), .lst (1) (List.map I (St.o (decS l (encR l s))))] (0)])))) (.done (.mk (.bool (false)) [.mk (3) [.lst (1) (List.map ints (St.c (decS l (encR l s)))), .lst (1) (List.map I (St.i (decS l (encR l s)))), .lst (1) (List.map I (St.o (decS l (encR l s))))] (0)]))) (.done (.mk (.bool (false)) [.mk (3) [.lst (1) (List.map ints (St.c (decS l (encR l s)))), .lst (1) (List.map I (St.i (decS l (encR l s)))), .lst (1) (List.map I (St.o (decS l (encR l s))))] (0)])))))) (.done (.mk (.bool (false)) [.mk (3) [.lst (1) (List.map ints (St.c (decS l (encR l s)))), .lst (1) (List.map I (St.i (decS l (encR l s)))), .lst (1) (List.map I (St.o (decS l (encR l s))))] (0)]))))) (.eq (pcallv (Orc.mk iso shr (ownS X.sh) []) (.fn (18) []) [(.lst (3) (List.map VD.pv l)), (.agg [.lst (1) (List.map ints (St.c s)), .lst (1) (List.map I (St.i s)), .lst (1) (List.map I (St.o s))])] []) (.bool (false)) [] (.ask (encE l s == 3) (.ask ((↑(List.length (List.map U8 (encR l s))) : Int) == 0) (.done (.mk (.bool (true)) [])) (.done (.mk (.bool (false)) []))) (.done (.mk (.bool (false)) []))))))))) := by kernel_rfl
theorem t11 (iso : Nat → List PV → Option PV) (shr : Nat → List PV → List Pv.Box → Option (PV × List Pv.Box)) (l : List VD) (b : List Int) : wsh Try.prog X (Orc.mk iso shr (ownS X.sh) []) 11 40 Try.f11 [vars l, bts b] [] (.w (.bool (true)) [] (.n 1 (.s (.e) (.n 1 (.s (.e) (.w (.tup [.agg [.lst (1) (List.map ints (St.c (decS l b))), .lst (1) (List.map I (St.i (decS l b))), .lst (1) (List.map I (St.o (decS l b)))], .int (IntKind.i64) (decE l b)]) [] (.n 3 (.w (.tup [.agg [.lst (1) (List.map ints (St.c (decS l b))), .lst (1) (List.map I (St.i (decS l b))), .lst (1) (List.map I (St.o (decS l b)))], .int (IntKind.i64) (decE l b)]) [.mk (3) [.lst (1) (List.map ints (St.c (decS l b))), .lst (1) (List.map I (St.i (decS l b))), .lst (1) (List.map I (St.o (decS l b)))] (0)] (.n 3 (.s (.e) (.n 2 (.c (decide (decS l b = decS l b)) (.v (.bool (true)) (.s (.e) (.n 1 (.w (.tup [.lst (1) (List.map U8 (encR l (decS l b))), .int (IntKind.i64) (encE l (decS l b))]) [.mk (3) [.lst (1) (List.map ints (St.c (decS l b))), .lst (1) (List.map I (St.i (decS l b))), .lst (1) (List.map I (St.o (decS l b)))] (0), .mk (3) [.lst (1) (List.map ints (St.c (decS l b))), .lst (1) (List.map I (St.i (decS l b))), .lst (1) (List.map I (St.o (decS l b)))] (0)] (.n 2 (.s (.v (.str (sB (encR l (decS l b)))) (.v (.str (sB b)) (.s (.n 1 (.c (fitV l (decS l b)) (.v (.bool (true)) (.e)) (.v (.bool (false)) (.e)))) (.e)))) (.e))))))) (.v (.bool (false)) (.e)))))))))))))) = .eq (pcallv (Orc.mk iso shr (ownS X.sh) []) (.fn (13) []) [] []) (.bool (true)) [] (.ask (decide ((↑(List.length (List.map VD.pv l)) : Int) > 6)) (.done (.mk (.bool (true)) [])) (.ask (decide ((↑(List.length (List.map U8 b)) : Int) > 600)) (.done (.mk (.bool (true)) [])) (.eq (pcallv (Orc.mk iso shr (ownS X.sh) []) (.fn (31) []) [(.lst (3) (List.map VD.pv l)), (.lst (1) (List.map U8 b))] []) (.tup [.agg [.lst (1) (List.map ints (St.c (decS l b))), .lst (1) (List.map I (St.i (decS l b))), .lst (1) (List.map I (St.o (decS l b)))], .int (IntKind.i64) (decE l b)]) [] (.eq (pcallv (Orc.mk iso shr (ownS X.sh) []) (.fn (33) []) [(.lst (3) (List.map VD.pv l)), (.lst (1) (List.map U8 b))] [.mk (3) [.lst (1) (List.map ints (St.c (decS l b))), .lst (1) (List.map I (St.i (decS l b))), .lst (1) (List.map I (St.o (decS l b)))] (0)]) (.tup [.agg [.lst (1) (List.map ints (St.c (decS l b))), .lst (1) (List.map I (St.i (decS l b))), .lst (1) (List.map I (St.o (decS l b)))], .int (IntKind.i64) (decE l b)]) [.mk (3) [.lst (1) (List.map ints (St.c (decS l b))), .lst (1) (List.map I (St.i (decS l b))), .lst (1) (List.map I (St.o (decS l b)))] (0)] (.ask (decE l b != decE l b) (.done (.mk (.bool (false)) [.mk (3) [.lst (1) (List.map ints (St.c (decS l b))), .lst (1) (List.map I (St.i (decS l b))), .lst (1) (List.map I (St.o (decS l b)))] (0), .mk (3) [.lst (1) (List.map ints (St.c (decS l b))), .lst (1) (List.map I (St.i (decS l b))), .lst (1) (List.map I (St.o (decS l b)))] (0)])) (.ask (decide (decS l b = decS l b)) (.eq (pcallv (Orc.mk iso shr (ownS X.sh) []) (.fn (16) []) [(.agg [.lst (1) (List.map ints (St.c (decS l b))), .lst (1) (List.map I (St.i (decS l b))), .lst (1) (List.map I (St.o (decS l b)))]), (.agg [.lst (1) (List.map ints (St.c (decS l b))), .lst (1) (List.map I (St.i (decS l b))), .lst (1) (List.map I (St.o (decS l b)))])] [.mk (3) [.lst (1) (List.map ints (St.c (decS l b))), .lst (1) (List.map I (St.i (decS l b))), .lst (1) (List.map I (St.o (decS l b)))] (0), .mk (3) [.lst (1) (List.map ints (St.c (decS l b))), .lst (1) (List.map I (St.i (decS l b))), .lst (1) (List.map I (St.o (decS l b)))] (0)]) (.bool (true)) [.mk (3) [.lst (1) (List.map ints (St.c (decS l b))), .lst (1) (List.map I (St.i (decS l b))), .lst (1) (List.map I (St.o (decS l b)))] (0), .mk (3) [.lst (1) (List.map ints (St.c (decS l b))), .lst (1) (List.map I (St.i (decS l b))), .lst (1) (List.map I (St.o (decS l b)))] (0)] (.ask (decE l b != 0) (.done (.mk (.bool (true)) [.mk (3) [.lst (1) (List.map ints (St.c (decS l b))), .lst (1) (List.map I (St.i (decS l b))), .lst (1) (List.map I (St.o (decS l b)))] (0), .mk (3) [.lst (1) (List.map ints (St.c (decS l b))), .lst (1) (List.map I (St.i (decS l b))), .lst (1) (List.map I (St.o (decS l b)))] (0)])) (.eq (pcallv (Orc.mk iso shr (ownS X.sh) []) (.fn (30) []) [(.lst (3) (List.map VD.pv l)), (.agg [.lst (1) (List.map ints (St.c (decS l b))), .lst (1) (List.map I (St.i (decS l b))), .lst (1) (List.map I (St.o (decS l b)))])] [.mk (3) [.lst (1) (List.map ints (St.c (decS l b))), .lst (1) (List.map I (St.i (decS l b))), .lst (1) (List.map I (St.o (decS l b)))] (0), .mk (3) [.lst (1) (List.map ints (St.c (decS l b))), .lst (1) (List.map I (St.i (decS l b))), .lst (1) (List.map I (St.o (decS l b)))] (0)]) (.tup [.lst (1) (List.map U8 (encR l (decS l b))), .int (IntKind.i64) (encE l (decS l b))]) [.mk (3) [.lst (1) (List.map ints (St.c (decS l b))), .lst (1) (List.map I (St.i (decS l b))), .lst (1) (List.map I (St.o (decS l b)))] (0), .mk (3) [.lst (1) (List.map ints (St.c (decS l b))), .lst (1) (List.map I (St.i (decS l b))), .lst (1) (List.map I (St.o (decS l b)))] (0)] (.ask (encE l (decS l b) == 0) (.eq ((pconvM Try.prog [.mk (3) [.lst (1) (List.map ints (St.c (decS l b))), .lst (1) (List.map I (St.i (decS l b))), .lst (1) (List.map I (St.o (decS l b)))] (0), .mk (3) [.lst (1) (List.map ints (St.c (decS l b))), .lst (1) (List.map I (St.i (decS l b))), .lst (1) (List.map I (St.o (decS l b)))] (0)] 55 9 (.lst (1) (List.map U8 (encR l (decS l b))))).map fun v => (v, [.mk (3) [.lst (1) (List.map ints (St.c (decS l b))), .lst (1) (List.map I (St.i (decS l b))), .lst (1) (List.map I (St.o (decS l b)))] (0), .mk (3) [.lst (1) (List.map ints (St.c (decS l b))), .lst (1) (List.map I (St.i (decS l b))), .lst (1) (List.map I (St.o (decS l b)))] (0)])) (.str (sB (encR l (decS l b)))) [.mk (3) [.lst (1) (List.map ints (St.c (decS l b))), .lst (1) (List.map I (St.i (decS l b))), .lst (1) (List.map I (St.o (decS l b)))] (0), .mk (3) [.lst (1) (List.map ints (St.c (decS l b))), .lst (1) (List.map I (St.i (decS l b))), .lst (1) (List.map I (St.o (decS l b)))] (0)] (.eq ((pconvM Try.prog [.mk (3) [.lst (1) (List.map ints (St.c (decS l b))), .lst (1) (List.map I (St.i (decS l b))), .lst (1) (List.map I (St.o (decS l b)))] (0), .mk (3) [.lst (1) (List.map ints (St.c (decS l b))), .lst (1) (List.map I (St.i (decS l b))), .lst (1) (List.map I (St.o (decS l b)))] (0)] 55 9 (.lst (1) (List.map U8 b))).map fun v => (v, [.mk (3) [.lst (1) (List.map ints (St.c (decS l b))), .lst (1) (List.map I (St.i (decS l b))), .lst (1) (List.map I (St.o (decS l b)))] (0), .mk (3) [.lst (1) (List.map ints (St.c (decS l b))), .lst (1) (List.map I (St.i (decS l b))), .lst (1) (List.map I (St.o (decS l b)))] (0)])) (.str (sB b)) [.mk (3) [.lst (1) (List.map ints (St.c (decS l b))), .lst (1) (List.map I (St.i (decS l b))), .lst (1) (List.map I (St.o (decS l b)))] (0), .mk (3) [.lst (1) (List.map ints (St.c (decS l b))), .lst (1) (List.map I (St.i (decS l b))), .lst (1) (List.map I (St.o (decS l b)))] (0)] (.ask (ByteArray.toList (sB (encR l (decS l b))) == ByteArray.toList (sB b)) (.ask (fitV l (decS l b)) (.eq (pcallv (Orc.mk iso shr (ownS X.sh) []) (.fn (17) []) [(.lst (3) (List.map VD.pv l)), (.agg [.lst (1) (List.map ints (St.c (decS l b))), .lst (1) (List.map I (St.i (decS l b))), .lst (1) (List.map I (St.o (decS l b)))])] [.mk (3) [.lst (1) (List.map ints (St.c (decS l b))), .lst (1) (List.map I (St.i (decS l b))), .lst (1) (List.map I (St.o (decS l b)))] (0), .mk (3) [.lst (1) (List.map ints (St.c (decS l b))), .lst (1) (List.map I (St.i (decS l b))), .lst (1) (List.map I (St.o (decS l b)))] (0)]) (.bool (true)) [.mk (3) [.lst (1) (List.map ints (St.c (decS l b))), .lst (1) (List.map I (St.i (decS l b))), .lst (1) (List.map I (St.o (decS l b)))] (0), .mk (3) [.lst (1) (List.map ints (St.c (decS l b))), .lst (1) (List.map I (St.i (decS l b))), .lst (1) (List.map I (St.o (decS l b)))] (0)] (.done (.mk (.bool (true)) [.mk (3) [.lst (1) (List.map ints (St.c (decS l b))), .lst (1) (List.map I (St.i (decS l b))), .lst (1) (List.map I (St.o (decS l b)))] (0), .mk (3) [.lst (1) (List.map ints (St.c (decS l b))), .lst (1) (List.map I (St.i (decS l b))), .lst (1) (List.map I (St.o (decS l b)))] (0)]))) (.eq (pcallv (Orc.mk iso shr (ownS X.sh) []) (.fn (17) []) [(.lst (3) (List.map VD.pv l)), (.agg [.lst (1) (List.map ints (St.c (decS l b))), .lst (1) (List.map I (St.i (decS l b))), .lst (1) (List.map I (St.o (decS l b)))])] [.mk (3) [.lst (1) (List.map ints (St.c (decS l b))), .lst (1) (List.map I (St.i (decS l b))), .lst (1) (List.map I (St.o (decS l b)))] (0), .mk (3) [.lst (1) (List.map ints (St.c (decS l b))), .lst (1) (List.map I (St.i (decS l b))), .lst (1) (List.map I (St.o (decS l b)))] (0)]) (.bool (false)) [.mk (3) [.lst (1) (List.map ints (St.c (decS l b))), .lst (1) (List.map I (St.i (decS l b))), .lst (1) (List.map I (St.o (decS l b)))] (0), .mk (3) [.lst (1) (List.map ints (St.c (decS l b))), .lst (1) (List.map I (St.i (decS l b))), .lst (1) (List.map I (St.o (decS l b)))] (0)] (.done (.mk (.bool (false)) [.mk (3) [.lst (1) (List.map ints (St.c (decS l b))), .lst (1) (List.map I (St.i (decS l b))), .lst (1) (List.map I (St.o (decS l b)))] (0), .mk (3) [.lst (1) (List.map ints (St.c (decS l b))), .lst (1) (List.map I (St.i (decS l b))), .lst (1) (List.map I (St.o (decS l b)))] (0)])))) (.done (.mk (.bool (false)) [.mk (3) [.lst (1) (List.map ints (St.c (decS l b))), .lst (1) (List.map I (St.i (decS l b))), .lst (1) (List.map I (St.o (decS l b)))] (0), .mk (3) [.lst (1) (List.map ints (St.c (decS l b))), .lst (1) (List.map I (St.i (decS l b))), .lst (1) (List.map I (St.o (decS l b)))] (0)]))))) (.done (.mk (.bool (false)) [.mk (3) [.lst (1) (List.map ints (St.c (decS l b))), .lst (1) (List.map I (St.i (decS l b))), .lst (1) (List.map I (St.o (decS l b)))] (0), .mk (3) [.lst (1) (List.map ints (St.c (decS l b))), .lst (1) (List.map I (St.i (decS l b))), .lst (1) (List.map I (St.o (decS l b)))] (0)])))))) (.eq (pcallv (Orc.mk iso shr (ownS X.sh) []) (.fn (16) []) [(.agg [.lst (1) (List.map ints (St.c (decS l b))), .lst (1) (List.map I (St.i (decS l b))), .lst (1) (List.map I (St.o (decS l b)))]), (.agg [.lst (1) (List.map ints (St.c (decS l b))), .lst (1) (List.map I (St.i (decS l b))), .lst (1) (List.map I (St.o (decS l b)))])] [.mk (3) [.lst (1) (List.map ints (St.c (decS l b))), .lst (1) (List.map I (St.i (decS l b))), .lst (1) (List.map I (St.o (decS l b)))] (0), .mk (3) [.lst (1) (List.map ints (St.c (decS l b))), .lst (1) (List.map I (St.i (decS l b))), .lst (1) (List.map I (St.o (decS l b)))] (0)]) (.bool (false)) [.mk (3) [.lst (1) (List.map ints (St.c (decS l b))), .lst (1) (List.map I (St.i (decS l b))), .lst (1) (List.map I (St.o (decS l b)))] (0), .mk (3) [.lst (1) (List.map ints (St.c (decS l b))), .lst (1) (List.map I (St.i (decS l b))), .lst (1) (List.map I (St.o (decS l b)))] (0)] (.done (.mk (.bool (false)) [.mk (3) [.lst (1) (List.map ints (St.c (decS l b))), .lst (1) (List.map I (St.i (decS l b))), .lst (1) (List.map I (St.o (decS l b)))] (0), .mk (3) [.lst (1) (List.map ints (St.c (decS l b))), .lst (1) (List.map I (St.i (decS l b))), .lst (1) (List.map I (St.o (decS l b)))] (0)]))))))))) := by kernel_rfl
theorem convH (l : List Int) (hp : List Pv.Box) : (pconvM Try.prog hp 55 9 (.lst 1 (List.map U8 l))).map (fun v => (v, hp)) = some (.str (sB l), hp) := by
  unfold pconvM
  rw [Try.underlying55, Try.underlying9]
  simp only
  rw [Try.underlying5, telems_lst]
  simp only [pbytes_u8]
  rfl
theorem fit_sz {l : List VD} {s : St} (h : fitV l s = true) : l.length ≤ 32 ∧ s.c.length = l.length ∧ s.i.length ≤ 4096 ∧ s.o.length ≤ 4096 ∧ ∀ i, (s.c.getD i default).length ≤ 4096 := by
  obtain ⟨hval, hlen, hi, ho, hf⟩ := fitV_iff.1 h
  refine ⟨(valV_iff.1 hval).1, hlen, hi, ho, fun i => ?_⟩
  rcases Nat.lt_or_ge i l.length with hl | hl
  · have h1 := fitC_iff.1 (hf i hl)
    have h2 := badV_iff.1 (bad_all hval i hl)
    have h3 := wid_eq (l.getD i default)
    by_cases hk : (l.getD i default).k = 3
    · have := h1.1 hk; omega
    · have h4 := h1.2 hk
      by_cases h5 : (l.getD i default).k = 1
      · have := h3.1 h5; omega
      · have := h3.2 h5; omega
  · rw [List.getD_eq_getElem?_getD, List.getElem?_eq_none (by omega)]
    exact Nat.zero_le _
theorem sm_fit {l : List VD} {s : St} (h : fitV l s = true) : Sm s := by
  obtain ⟨h1, h2, h3, h4, h5⟩ := fit_sz h
  refine ⟨by rw [BB_eq]; omega, fun x hx => ?_, by rw [BB_eq]; omega, by rw [BB_eq]; omega⟩
  obtain ⟨j, hj, rfl⟩ := List.getElem_of_mem hx
  have := h5 j
  rw [List.getD_eq_getElem?_getD, List.getElem?_eq_getElem hj] at this
  rw [BB_eq]
  simp only [Option.getD_some] at this
  omega
theorem enc_len {l : List VD} {s : St} (h : fitV l s = true) : (enc l s).length ≤ LB := by
  obtain ⟨h1, h2, h3, h4, h5⟩ := fit_sz h
  have := encN_len (l := l) h5 l.length
  unfold enc
  rw [LB_eq]
  simp only [List.length_append, be2_len, bes_len]
  omega
theorem encR_fit {l : List VD} {s : St} (h : fitV l s = true) : encR l s = enc l s ∧ encE l s = 0 := by unfold encR encE; rw [h]; exact ⟨rfl, rfl⟩
theorem encR_no {l : List VD} {s : St} (h : fitV l s = false) : encR l s = [] ∧ encE l s = 3 := by unfold encR encE; rw [h]; exact ⟨rfl, rfl⟩
theorem B8.encR (l : List VD) (s : St) : B8 (encR l s) := by unfold Ytmkpdbofhpffaaa.encR; split; exact B8.enc l s; exact fun x hx => by simp at hx
theorem encR_len (l : List VD) (s : St) : (encR l s).length ≤ LB := by
  cases h : fitV l s with
  | true => rw [(encR_fit h).1]; exact enc_len h
  | false => rw [(encR_no h).1]; exact Nat.zero_le _
theorem decS_sm {l : List VD} {b : List Int} (hb : B8 b) : Sm (decS l b) := by
  by_cases h : decE l b = 0
  · exact sm_fit (enc_dec hb h).1
  · rw [dec_no h]; exact ⟨Nat.zero_le _, fun x hx => by simp at hx, Nat.zero_le _, Nat.zero_le _⟩
theorem decS_sz {l : List VD} {b : List Int} (hb : B8 b) (h : decE l b = 0) : (decS l b).i.length ≤ 4096 ∧ (decS l b).o.length ≤ 4096 ∧ ∀ i, ((decS l b).c.getD i default).length ≤ 4096 := (fit_sz (enc_dec hb h).1).2.2
theorem le1 : ∃ (iso : Nat → List PV → Option PV) (shr : Nat → List PV → List Pv.Box → Option (PV × List Pv.Box)), OrcOk Try.prog X.G ⟨iso, shr, ownS X.sh, []⟩ ∧ (iso 13 [] = some (.bool true)) ∧ (∀ (s : St), iso 20 [s.pv] = some (I (sml s))) ∧ (∀ (l : List VD) (s : St), (s.i.length ≤ 4096 ∧ s.o.length ≤ 4096 ∧ ∀ i, (s.c.getD i default).length ≤ 4096) → iso 30 [vars l, s.pv] = some (.tup [.lst 1 (List.map U8 (encR l s)), .int .i64 (encE l s)])) ∧ (∀ (l : List VD) (s : St), (l.length ≤ BB) → iso 18 [vars l, s.pv] = some (.bool (fitV l s))) ∧ (∀ (l : List VD) (b : List Int), (B8 b ∧ b.length ≤ LB) → iso 31 [vars l, bts b] = some (.tup [(decS l b).pv, .int .i64 (decE l b)])) ∧ (∀ (l : List VD) (s : St), (l.length ≤ 32 ∧ s.c.length = l.length ∧ s.i.length ≤ 4096 ∧ s.o.length ≤ 4096 ∧ ∀ i, (s.c.getD i default).length ≤ 4096) → iso 32 [vars l, s.pv] = some (bts (enc l s))) ∧ (∀ (a : St) (b : St), (Sm a) → iso 16 [a.pv, b.pv] = some (.bool (decide (a = b)))) := by
  obtain ⟨h13, e13, o13⟩ := ent_ex (fun q : Unit => True) (fun q => ([], .bool true)) (fun a b h => by simp only [List.cons.injEq, ints_inj, cells_inj, vars_inj, VD_inj, St_inj, PV.int.injEq, rd_inj, bts_inj, and_true, true_and] at h; rfl)
  obtain ⟨h20, e20, o20⟩ := ent_ex (fun q : St => True) (fun q => ([(q).pv], I (sml (q)))) (fun a b h => by simp only [List.cons.injEq, ints_inj, cells_inj, vars_inj, VD_inj, St_inj, PV.int.injEq, rd_inj, bts_inj, and_true, true_and] at h; simp only [h])
  obtain ⟨h30, e30, o30⟩ := ent_ex (fun q : (List VD) × (St) => (q.2).i.length ≤ 4096 ∧ (q.2).o.length ≤ 4096 ∧ ∀ i, ((q.2).c.getD i default).length ≤ 4096) (fun q => ([vars (q.1), (q.2).pv], .tup [.lst 1 (List.map U8 (encR (q.1) (q.2))), .int .i64 (encE (q.1) (q.2))])) (fun a b h => by simp only [List.cons.injEq, ints_inj, cells_inj, vars_inj, VD_inj, St_inj, PV.int.injEq, rd_inj, bts_inj, and_true, true_and] at h; simp only [h])
  obtain ⟨h18, e18, o18⟩ := ent_ex (fun q : (List VD) × (St) => (q.1).length ≤ BB) (fun q => ([vars (q.1), (q.2).pv], .bool (fitV (q.1) (q.2)))) (fun a b h => by simp only [List.cons.injEq, ints_inj, cells_inj, vars_inj, VD_inj, St_inj, PV.int.injEq, rd_inj, bts_inj, and_true, true_and] at h; simp only [h])
  obtain ⟨h31, e31, o31⟩ := ent_ex (fun q : (List VD) × (List Int) => B8 (q.2) ∧ (q.2).length ≤ LB) (fun q => ([vars (q.1), bts (q.2)], .tup [(decS (q.1) (q.2)).pv, .int .i64 (decE (q.1) (q.2))])) (fun a b h => by simp only [List.cons.injEq, ints_inj, cells_inj, vars_inj, VD_inj, St_inj, PV.int.injEq, rd_inj, bts_inj, and_true, true_and] at h; simp only [h])
  obtain ⟨h32, e32, o32⟩ := ent_ex (fun q : (List VD) × (St) => (q.1).length ≤ 32 ∧ (q.2).c.length = (q.1).length ∧ (q.2).i.length ≤ 4096 ∧ (q.2).o.length ≤ 4096 ∧ ∀ i, ((q.2).c.getD i default).length ≤ 4096) (fun q => ([vars (q.1), (q.2).pv], bts (enc (q.1) (q.2)))) (fun a b h => by simp only [List.cons.injEq, ints_inj, cells_inj, vars_inj, VD_inj, St_inj, PV.int.injEq, rd_inj, bts_inj, and_true, true_and] at h; simp only [h])
  obtain ⟨h16, e16, o16⟩ := ent_ex (fun q : (St) × (St) => Sm (q.1)) (fun q => ([(q.1).pv, (q.2).pv], .bool (decide ((q.1) = (q.2))))) (fun a b h => by simp only [List.cons.injEq, ints_inj, cells_inj, vars_inj, VD_inj, St_inj, PV.int.injEq, rd_inj, bts_inj, and_true, true_and] at h; simp only [h])
  have hT : TabOk Try.prog X.G [(13, h13), (20, h20), (30, h30), (18, h18), (31, h31), (32, h32), (16, h16)] := tk (fun l r e => by obtain ⟨a, ha, rfl, rfl⟩ := o13 l r e; exact ok13) (tk (fun l r e => by obtain ⟨a, ha, rfl, rfl⟩ := o20 l r e; exact ok20 (a)) (tk (fun l r e => by obtain ⟨a, ha, rfl, rfl⟩ := o30 l r e; exact ok30g (a.1) (a.2) ha) (tk (fun l r e => by obtain ⟨a, ha, rfl, rfl⟩ := o18 l r e; exact ok18 (a.1) (a.2) ha) (tk (fun l r e => by obtain ⟨a, ha, rfl, rfl⟩ := o31 l r e; exact ok31 (a.1) (a.2) ha.1 ha.2) (tk (fun l r e => by obtain ⟨a, ha, rfl, rfl⟩ := o32 l r e; exact ok32 (a.1) (a.2) ha.1 ha.2.1 ha.2.2) (tk (fun l r e => by obtain ⟨a, ha, rfl, rfl⟩ := o16 l r e; exact ok16 (a.1) (a.2) ha) tn))))))
  have hS : TabSOk Try.prog X.G [] := tn'
  exact ⟨_, _, orcS hT hS, e13 () trivial, fun s  => e20 s trivial, fun l s hp => e30 (l, s) hp, fun l s hp => e18 (l, s) hp, fun l b hp => e31 (l, b) hp, fun l s hp => e32 (l, s) hp, fun a b hp => e16 (a, b) hp⟩
theorem ok10  (l : List VD) (s : St) (hr : InR s) : Ok Try.prog X.G 10 [vars l, s.pv] (.bool true) := by
  obtain ⟨iso, shr, hC, e13, e20, e30, e18, e31, e32, e16⟩ := le1
  have hsz : sml s ≠ 0 → s.i.length ≤ 4096 ∧ s.o.length ≤ 4096 ∧ ∀ i, (s.c.getD i default).length ≤ 4096 := fun h => by obtain ⟨h1, h2, h3⟩ := sml_c h; exact ⟨by omega, by omega, fun i => Nat.le_trans (h3 i) (by decide)⟩
  have hy : fitV l s = true → encE l s = 0 ∧ decE l (encR l s) = 0 ∧ decS l (encR l s) = s ∧ encR l s = enc l s := fun h => by obtain ⟨h1, h2⟩ := encR_fit h; obtain ⟨h3, h4⟩ := dec_enc h hr; rw [h1]; exact ⟨h2, h3, h4, rfl⟩
  have hn : fitV l s = false → encE l s = 3 ∧ encR l s = [] := fun h => ⟨(encR_no h).2, (encR_no h).1⟩
  have hl := encR_len l s
  have hb := B8.encR l s
  refine wok env hC fd10 (t10 iso shr l s) ?_ hhS
  simp only [Holds]
  refine ⟨?_, ?_⟩
  · exact pcallv_iso rfl rfl (e13)
  refine ⟨fun h0 => ?_, fun h0 => ?_⟩
  · have g0 := of_decide_eq_true h0
    try simp only [List.length_map] at g0
    exact fin_b rfl
  · have g0 := of_decide_eq_false h0
    try simp only [List.length_map] at g0
    refine ⟨?_, ?_⟩
    · exact pcallv_iso rfl rfl (e20 _)
    refine ⟨fun h1 => ?_, fun h1 => ?_⟩
    · have g1 := beq_iff_eq.1 h1
      try simp only [List.length_map] at g1
      exact fin_b rfl
    · have g1 := beq_eq_false_iff_ne.1 h1
      try simp only [List.length_map] at g1
      refine ⟨?_, ?_⟩
      · exact pcallv_iso rfl rfl (e30 _ _ (hsz (by assumption)))
      refine ⟨fun h2 => ?_, fun h2 => ?_⟩
      · have g2 := h2
        refine ⟨?_, ?_⟩
        · (exact pcallv_iso rfl rfl (by rw [← h2]; exact e18 _ _ (by rw [BB_eq]; omega)))
        refine ⟨?_, ?_⟩
        · exact pcallv_iso rfl rfl (e31 _ _ ⟨hb, hl⟩)
        refine ⟨fun h3 => ?_, fun h3 => ?_⟩
        · have g3 := beq_iff_eq.1 h3
          try simp only [List.length_map] at g3
          refine ⟨?_, ?_⟩
          · exact convH _ _
          refine ⟨?_, ?_⟩
          · exact pcallD_iso rfl rfl (e32 _ _ ⟨(fit_sz (by assumption)).1, (fit_sz (by assumption)).2.1, hsz (by assumption)⟩)
          refine ⟨?_, ?_⟩
          · exact convH _ _
          refine ⟨fun h4 => ?_, fun h4 => ?_⟩
          · have g4 := beq_iff_eq.1 h4
            try simp only [List.length_map] at g4
            refine ⟨fun h5 => ?_, fun h5 => ?_⟩
            · have g5 := beq_iff_eq.1 h5
              try simp only [List.length_map] at g5
              refine ⟨fun h6 => ?_, fun h6 => ?_⟩
              · have g6 := of_decide_eq_true h6
                try simp only [List.length_map] at g6
                refine ⟨?_, ?_⟩
                · (exact pcallD_iso rfl rfl (by rw [← h6]; exact e16 _ _ (decS_sm hb)))
                exact fin_b rfl
              · have g6 := of_decide_eq_false h6
                try simp only [List.length_map] at g6
                refine ⟨?_, ?_⟩
                · (exact pcallD_iso rfl rfl (by rw [← h6]; exact e16 _ _ (decS_sm hb)))
                ((exact absurd (hy (by assumption)).2.2.1 (by assumption)))
            · have g5 := beq_eq_false_iff_ne.1 h5
              try simp only [List.length_map] at g5
              ((exact absurd (hy (by assumption)).2.1 (by assumption)))
          · have g4 := beq_eq_false_iff_ne.1 h4
            try simp only [List.length_map] at g4
            ((exact absurd (congrArg (fun x => (sB x).toList) (hy (by assumption)).2.2.2) (by assumption)))
        · have g3 := beq_eq_false_iff_ne.1 h3
          try simp only [List.length_map] at g3
          ((exact absurd (hy (by assumption)).1 (by assumption)))
      · have g2 := h2
        refine ⟨?_, ?_⟩
        · (exact pcallv_iso rfl rfl (by rw [← h2]; exact e18 _ _ (by rw [BB_eq]; omega)))
        refine ⟨fun h7 => ?_, fun h7 => ?_⟩
        · have g7 := beq_iff_eq.1 h7
          try simp only [List.length_map] at g7
          refine ⟨fun h8 => ?_, fun h8 => ?_⟩
          · have g8 := beq_iff_eq.1 h8
            try simp only [List.length_map] at g8
            exact fin_b rfl
          · have g8 := beq_eq_false_iff_ne.1 h8
            try simp only [List.length_map] at g8
            ((simp_all; done))
        · have g7 := beq_eq_false_iff_ne.1 h7
          try simp only [List.length_map] at g7
          ((exact absurd (hn (by assumption)).1 (by assumption)))
theorem le2 : ∃ (iso : Nat → List PV → Option PV) (shr : Nat → List PV → List Pv.Box → Option (PV × List Pv.Box)), OrcOk Try.prog X.G ⟨iso, shr, ownS X.sh, []⟩ ∧ (iso 13 [] = some (.bool true)) ∧ (∀ (l : List VD) (s : St), (s.i.length ≤ 4096 ∧ s.o.length ≤ 4096 ∧ ∀ i, (s.c.getD i default).length ≤ 4096) → iso 30 [vars l, s.pv] = some (.tup [.lst 1 (List.map U8 (encR l s)), .int .i64 (encE l s)])) ∧ (∀ (l : List VD) (b : List Int), (B8 b ∧ b.length ≤ LB) → iso 31 [vars l, bts b] = some (.tup [(decS l b).pv, .int .i64 (decE l b)])) ∧ (∀ (l : List VD) (b : List Int), (B8 b ∧ b.length ≤ LB ∧ l.length ≤ BB) → iso 33 [vars l, bts b] = some (.tup [(decS l b).pv, .int .i64 (decE l b)])) ∧ (∀ (a : St) (b : St), (Sm a) → iso 16 [a.pv, b.pv] = some (.bool (decide (a = b)))) ∧ (∀ (l : List VD) (s : St), iso 17 [vars l, s.pv] = some (.bool (fitV l s))) := by
  obtain ⟨h13, e13, o13⟩ := ent_ex (fun q : Unit => True) (fun q => ([], .bool true)) (fun a b h => by simp only [List.cons.injEq, ints_inj, cells_inj, vars_inj, VD_inj, St_inj, PV.int.injEq, rd_inj, bts_inj, and_true, true_and] at h; rfl)
  obtain ⟨h30, e30, o30⟩ := ent_ex (fun q : (List VD) × (St) => (q.2).i.length ≤ 4096 ∧ (q.2).o.length ≤ 4096 ∧ ∀ i, ((q.2).c.getD i default).length ≤ 4096) (fun q => ([vars (q.1), (q.2).pv], .tup [.lst 1 (List.map U8 (encR (q.1) (q.2))), .int .i64 (encE (q.1) (q.2))])) (fun a b h => by simp only [List.cons.injEq, ints_inj, cells_inj, vars_inj, VD_inj, St_inj, PV.int.injEq, rd_inj, bts_inj, and_true, true_and] at h; simp only [h])
  obtain ⟨h31, e31, o31⟩ := ent_ex (fun q : (List VD) × (List Int) => B8 (q.2) ∧ (q.2).length ≤ LB) (fun q => ([vars (q.1), bts (q.2)], .tup [(decS (q.1) (q.2)).pv, .int .i64 (decE (q.1) (q.2))])) (fun a b h => by simp only [List.cons.injEq, ints_inj, cells_inj, vars_inj, VD_inj, St_inj, PV.int.injEq, rd_inj, bts_inj, and_true, true_and] at h; simp only [h])
  obtain ⟨h33, e33, o33⟩ := ent_ex (fun q : (List VD) × (List Int) => B8 (q.2) ∧ (q.2).length ≤ LB ∧ (q.1).length ≤ BB) (fun q => ([vars (q.1), bts (q.2)], .tup [(decS (q.1) (q.2)).pv, .int .i64 (decE (q.1) (q.2))])) (fun a b h => by simp only [List.cons.injEq, ints_inj, cells_inj, vars_inj, VD_inj, St_inj, PV.int.injEq, rd_inj, bts_inj, and_true, true_and] at h; simp only [h])
  obtain ⟨h16, e16, o16⟩ := ent_ex (fun q : (St) × (St) => Sm (q.1)) (fun q => ([(q.1).pv, (q.2).pv], .bool (decide ((q.1) = (q.2))))) (fun a b h => by simp only [List.cons.injEq, ints_inj, cells_inj, vars_inj, VD_inj, St_inj, PV.int.injEq, rd_inj, bts_inj, and_true, true_and] at h; simp only [h])
  obtain ⟨h17, e17, o17⟩ := ent_ex (fun q : (List VD) × (St) => True) (fun q => ([vars (q.1), (q.2).pv], .bool (fitV (q.1) (q.2)))) (fun a b h => by simp only [List.cons.injEq, ints_inj, cells_inj, vars_inj, VD_inj, St_inj, PV.int.injEq, rd_inj, bts_inj, and_true, true_and] at h; simp only [h])
  have hT : TabOk Try.prog X.G [(13, h13), (30, h30), (31, h31), (33, h33), (16, h16), (17, h17)] := tk (fun l r e => by obtain ⟨a, ha, rfl, rfl⟩ := o13 l r e; exact ok13) (tk (fun l r e => by obtain ⟨a, ha, rfl, rfl⟩ := o30 l r e; exact ok30g (a.1) (a.2) ha) (tk (fun l r e => by obtain ⟨a, ha, rfl, rfl⟩ := o31 l r e; exact ok31 (a.1) (a.2) ha.1 ha.2) (tk (fun l r e => by obtain ⟨a, ha, rfl, rfl⟩ := o33 l r e; exact ok33 (a.1) (a.2) ha.1 ha.2.1 ha.2.2) (tk (fun l r e => by obtain ⟨a, ha, rfl, rfl⟩ := o16 l r e; exact ok16 (a.1) (a.2) ha) (tk (fun l r e => by obtain ⟨a, ha, rfl, rfl⟩ := o17 l r e; exact ok17 (a.1) (a.2)) tn)))))
  have hS : TabSOk Try.prog X.G [] := tn'
  exact ⟨_, _, orcS hT hS, e13 () trivial, fun l s hp => e30 (l, s) hp, fun l b hp => e31 (l, b) hp, fun l b hp => e33 (l, b) hp, fun a b hp => e16 (a, b) hp, fun l s  => e17 (l, s) trivial⟩
theorem ok11  (l : List VD) (b : List Int) (hb : B8 b) : Ok Try.prog X.G 11 [vars l, bts b] (.bool true) := by
  obtain ⟨iso, shr, hC, e13, e30, e31, e33, e16, e17⟩ := le2
  have hy : decE l b = 0 → fitV l (decS l b) = true ∧ encE l (decS l b) = 0 ∧ encR l (decS l b) = b := fun h => by obtain ⟨h1, h2⟩ := enc_dec hb h; obtain ⟨h3, h4⟩ := encR_fit h1; exact ⟨h1, h4, h3.trans h2⟩
  refine wok env hC fd11 (t11 iso shr l b) ?_ hhS
  simp only [Holds]
  refine ⟨?_, ?_⟩
  · exact pcallv_iso rfl rfl (e13)
  refine ⟨fun h0 => ?_, fun h0 => ?_⟩
  · have g0 := of_decide_eq_true h0
    try simp only [List.length_map] at g0
    exact fin_b rfl
  · have g0 := of_decide_eq_false h0
    try simp only [List.length_map] at g0
    refine ⟨fun h1 => ?_, fun h1 => ?_⟩
    · have g1 := of_decide_eq_true h1
      try simp only [List.length_map] at g1
      exact fin_b rfl
    · have g1 := of_decide_eq_false h1
      try simp only [List.length_map] at g1
      refine ⟨?_, ?_⟩
      · (exact pcallv_iso rfl rfl (e31 _ _ ⟨hb, by rw [LB_eq]; omega⟩))
      refine ⟨?_, ?_⟩
      · (exact pcallv_iso rfl rfl (e33 _ _ ⟨hb, by rw [LB_eq]; omega, by rw [BB_eq]; omega⟩))
      refine ⟨fun h2 => ?_, fun h2 => ?_⟩
      · have g2 := bne_iff_ne.1 h2
        try simp only [List.length_map] at g2
        (omega)
      · have g2 := bne_eq_false_iff_eq.1 h2
        try simp only [List.length_map] at g2
        refine ⟨fun h3 => ?_, fun h3 => ?_⟩
        · have g3 := of_decide_eq_true h3
          try simp only [List.length_map] at g3
          refine ⟨?_, ?_⟩
          · exact pcallv_iso rfl rfl ((e16 (decS l b) (decS l b) (decS_sm hb)).trans (by simp))
          refine ⟨fun h4 => ?_, fun h4 => ?_⟩
          · have g4 := bne_iff_ne.1 h4
            try simp only [List.length_map] at g4
            exact fin_b rfl
          · have g4 := bne_eq_false_iff_eq.1 h4
            try simp only [List.length_map] at g4
            refine ⟨?_, ?_⟩
            · exact pcallv_iso rfl rfl (e30 _ _ (decS_sz hb (by omega)))
            refine ⟨fun h5 => ?_, fun h5 => ?_⟩
            · have g5 := beq_iff_eq.1 h5
              try simp only [List.length_map] at g5
              refine ⟨?_, ?_⟩
              · exact convH _ _
              refine ⟨?_, ?_⟩
              · exact convH _ _
              refine ⟨fun h6 => ?_, fun h6 => ?_⟩
              · have g6 := beq_iff_eq.1 h6
                try simp only [List.length_map] at g6
                refine ⟨fun h7 => ?_, fun h7 => ?_⟩
                · have g7 := h7
                  refine ⟨?_, ?_⟩
                  · (exact pcallv_iso rfl rfl (by rw [← h7]; exact e17 _ _))
                  exact fin_b rfl
                · have g7 := h7
                  refine ⟨?_, ?_⟩
                  · (exact pcallv_iso rfl rfl (by rw [← h7]; exact e17 _ _))
                  ((exact absurd ((hy (by omega)).1.symm.trans (by assumption)) (by decide)))
              · have g6 := beq_eq_false_iff_ne.1 h6
                try simp only [List.length_map] at g6
                ((exact absurd (congrArg (fun x => (sB x).toList) (hy (by omega)).2.2) (by assumption)))
            · have g5 := beq_eq_false_iff_ne.1 h5
              try simp only [List.length_map] at g5
              (omega)
        · have g3 := of_decide_eq_false h3
          try simp only [List.length_map] at g3
          refine ⟨?_, ?_⟩
          · ((exact absurd trivial (by assumption)))
          ((exact absurd trivial (by assumption)))
theorem bts_list {m : Nat} : ∀ es : List PV, (∀ x ∈ es, ∃ xs, x = Pv.elemOf 1 xs ∧ Ty Try.prog m 5 xs) → ∃ l : List Int, es = l.map U8 ∧ B8 l
  | [], _ => ⟨[], rfl, fun x h => by simp at h⟩
  | e :: es, h => by
    obtain ⟨xs, rfl, ht⟩ := h e (by simp)
    obtain ⟨x, rfl, h1, h2⟩ := ty_int Try.underlying5 ht
    obtain ⟨l, rfl, hl⟩ := bts_list es (fun y hy => h y (by simp [hy]))
    refine ⟨x :: l, rfl, fun y hy => ?_⟩
    rcases List.mem_cons.1 hy with rfl | hy
    · exact ⟨h1, by have : IntKind.max .u8 = 255 := by decide
                    omega⟩
    · exact hl y hy
theorem ce5 : Try.prog.cellsOf 5 = 1 := by kernel_rfl
theorem bts_ty {m : Nat} {p : List PV} (h : Ty Try.prog m 55 p) : ∃ l : List Int, Pv.valOf Try.prog 55 p = bts l ∧ B8 l := by
  obtain ⟨n, es, rfl, _, he⟩ := ty_slice Try.underlying55 (by rw [ce5]; decide) h
  rw [ce5] at he ⊢
  obtain ⟨l, rfl, hl⟩ := bts_list es he
  refine ⟨l, ?_, hl⟩
  unfold Pv.valOf
  rw [Try.underlying55]
  rfl
theorem encodes_law (al : List PV) (h : Tys Try.prog [22, 27] al) : Ok Try.prog X.G 10 al (.bool true) := by
  cases h with
  | cons _ _ _ p _ h hs =>
    cases hs with
    | cons _ _ _ p' _ h' hs =>
      cases hs
      obtain ⟨l, e⟩ := vars_ty h
      obtain ⟨a, e', ra⟩ := stR_ty h'
      rw [e, e']
      exact ok10 l a ra
theorem decodes_law (al : List PV) (h : Tys Try.prog [22, 55] al) : Ok Try.prog X.G 11 al (.bool true) := by
  cases h with
  | cons _ _ _ p _ h hs =>
    cases hs with
    | cons _ _ _ p' _ h' hs =>
      cases hs
      obtain ⟨l, e⟩ := vars_ty h
      obtain ⟨b, e', rb⟩ := bts_ty h'
      rw [e, e']
      exact ok11 l b rb
end Go.Proofs.Ytmkpdbofhpffaaa
