/- Lemmas. -/
import Derived.Test.YtlibdcmcbinfnaaGreatMA30
set_option maxHeartbeats 100000000
set_option maxRecDepth 1000000
namespace Go.Proofs.YtlibdcmcbinfnaaGreat
open _root_.Go.Proofs.Tryz List Nat
open Go.RowKit
structure A10 where
 k:Int
 a:Option Addr
 n:Nat
 cap:Nat
 l:List Nd
 b:Option Addr
 m:Nat
 cap':Nat
 ids:List Int
def c10(x:A10):List Value:=[.int .u8 x.k,.slice x.a x.n x.cap,.slice x.b x.m x.cap']
theorem za8{ops:Array Oper}{S:World->Prop}{op:Oper}{a:Go.Act}(hw:Region.wanted op (yielded ops a.tmps)=true)(t:TypeId)(x0 x1 x2 x3:Operand)(ho:op.op= .build t #[(0,x0),(1,x1),(2,x2),(3,x3)])(v0 v1 v2 v3 vr:Value)(h0:a.eval x0=v0)(h1:a.eval x1=v1)(h2:a.eval x2=v2)(h3:a.eval x3=v3)
  (Hf:∀W,(Instr.build t #[(0,v0),(1,v1),(2,v2),(3,v3)]).run prog W= .ok vr W):YieldsIf prog ops S op vr a:=
 .inl ⟨hw,λw _=>by
  unfold execOp;simp only[ho]
  simp[h0,h1,h2,h3,Hf]⟩
theorem zrL(a b:Int)(M:Nat->Int)(h:Bool)(W:World):(Instr.build 205 #[(0,.int .i64 a),(1,.int .i64 b),(2,.agg (lM M).toArray),(3,.bool h)]).run prog W= .ok (.agg (cNd ⟨a,b,M,h⟩).toArray) W:=oM
end Go.Proofs.YtlibdcmcbinfnaaGreat
