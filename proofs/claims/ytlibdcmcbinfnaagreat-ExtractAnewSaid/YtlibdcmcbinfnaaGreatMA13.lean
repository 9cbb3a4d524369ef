/- Lemmas. -/
import Derived.Test.YtlibdcmcbinfnaaGreatMA12
set_option maxHeartbeats 100000000
set_option maxRecDepth 1000000
namespace Go.Proofs.YtlibdcmcbinfnaaGreat
open _root_.Go.Proofs.Tryz List Nat
open Go.RowKit
abbrev ColR (w:World) (v:Value) (R:TR):Prop:=ColX w 256 25 zyv v R
structure TV (w:World) (g o:Nat) (t:TypeId) (N:Nat) (f:Nat->Value) (s:Int) (v:Value) (R:TR):Prop where
 row:w.rowIs g t N f
 inN:o+1<N
 set:f o= .int .i64 s
 val:f (o+1)=v
 col:ColR w v R
 off:v.ownBlock≠some g
 len:R.length<=1000
theorem zvo(S:St):(alS S).length<=256:=ziy _ _ _
def cP(x:Int × PT):List Value:=pl x.2
variable{ops:Array Oper}{op:Oper}{a:Go.Act}{w:World}{Q:Exit->Go.Act->World->Prop}
theorem zfs{rest:List Oper}(Kg:op.guard=none)(t e:TypeId)(x:Operand)(ho:op.op= .buildSlice t 1 #[(0,x)])(X:List Value)(hx:a.eval x= .agg X.toArray)
  (Hf:∀W,(Instr.buildSlice t 1 #[(0,.agg X.toArray)]).run prog W= .ok (.slice (some ⟨W.heap.size,0,none⟩) 1 1) (W.alloc (.cells X.toArray e)))
  (h:wpList prog ops Q rest (a.put op.dst (.slice (some ⟨w.heap.size,0,none⟩) 1 1)) (w.alloc (.cells X.toArray e))):wpList prog ops Q (op::rest) a w:=
 wpList_plain Kg λK hK=>by
  have h2:=hK _ _ h;unfold Oper.wp execOp;simp only[ho];simp[hx,Hf];exact h2
section
variable (SB:World->Nat->(Nat->Prop)->St->Prop)
structure R1 (w:World) (g m:Nat) (v8 v9:Value) (since:Int) (wr:World) (F:Nat->Prop) (S:St) (X:TR):Prop where
 ids:∃ia icap,v8= .slice ia X.length icap/\Row wr ia X.length (X.map Prod.fst)/\Aw F ia X.length
 was:ColX wr 52 24 cP v9 X
 own:∀b,v9.ownBlock=some b->¬F b
 sb:SB wr g F S
 told:Told (λ_=>True) (λx P=>(x,P)∈X) since S
 bd:Bd S m
 bel:Bw w wr
 zgT:∀b,F b->w.heap.size<=b
 len:X.length<=256
 s0:0<=since
 s1:since<=1000
end
def mk8(m:Int × Int):Int × PT:=(m.1,m.2,zI,0,zI,0,0,false,0)
def cM(x:Int × PT):List Value:=[.int .i64 x.1,.int .i64 x.2.1]
abbrev ColM (w:World) (v:Value) (l:List (Int × Int)):Prop:=ColX w 160 2 cM v (l.map mk8)
def stE(tv:Nat->Value)(now:Int)(cv gv:Value)(j:Nat):Value:=if j<577 then (if j % 2=1 then .int .i64 (((j - 513) / 2:Nat):Int) else tv ((j - 514) / 2)) else if j=577 then .int .i64 now else if j=578 then cv else gv
def sF(S:St)(tv:Nat->Value)(cv gv:Value):Nat->Value:=zzY (stE tv S.now cv gv) S.room S.G S.L
structure RS (w:World) (g:Nat) (S:St) (tv:Nat->Value) (cv gv:Value):Prop where
 row:w.rowIs g 73 580 (sF S tv cv gv)
 tab:∀i,i<32->ColR w (tv i) (S.T i)
 chs:ColM w cv S.ch
 gos:ColM w gv S.go
 offT:∀i,i<32->(tv i).ownBlock≠some g
 offC:cv.ownBlock≠some g
 offG:gv.ownBlock≠some g
 sepT:∀i,i<32->∀b,gv.ownBlock=some b->(tv i).ownBlock≠some b
 sepC:∀b,gv.ownBlock=some b->cv.ownBlock≠some b
def zzZ(g:Nat)(tv:Nat->Value)(cv gv:Value)(b:Nat):Prop:=b=g∨(∃i,i<32/\(tv i).ownBlock=some b)∨cv.ownBlock=some b∨gv.ownBlock=some b
def RB(w:World)(g:Nat)(F:Nat->Prop)(S:St):Prop:=∃tv cv gv,RS w g S tv cv gv/\∀b,F b↔zzZ g tv cv gv b
theorem zlK{rest:List Oper}(Kg:op.guard=none)(t:TypeId)(ho:op.op= .build t #[])(vr:Value)
  (Hf:∀W,(Instr.build t #[]).run prog W= .ok vr W)
  (h:wpList prog ops Q rest (a.put op.dst vr) w):wpList prog ops Q (op::rest) a w:=
 wpList_plain Kg λK hK=>by
  have h2:=hK _ _ h;unfold Oper.wp execOp;simp only[ho];simp[Hf];exact h2
end Go.Proofs.YtlibdcmcbinfnaaGreat
