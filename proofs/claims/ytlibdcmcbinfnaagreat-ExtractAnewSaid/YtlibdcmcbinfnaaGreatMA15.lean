/- Lemmas. -/
import Derived.Test.YtlibdcmcbinfnaaGreatMA14
set_option maxHeartbeats 100000000
set_option maxRecDepth 1000000
namespace Go.Proofs.YtlibdcmcbinfnaaGreat
open _root_.Go.Proofs.Tryz List Nat
open Go.RowKit
def mkPr(m:Int × Int):Int × PT:=(m.1,m.2,zI,0,zI,0,0,false,0)
def cPr(x:Int × PT):List Value:=[.int .i64 x.1,.int .i64 x.2.1]
def ColP(w:World)(v:Value)(L:FT):Prop:=ColX w 269 2 cPr v (L.map mkPr)
structure RF (w:World) (g:Nat) (v:Value) (L:FT):Prop where
 blk:Blk w g 77 #[v]
 col:ColP w v L
 off:v.ownBlock≠some g
def zyH(g:Nat)(v:Value)(b:Nat):Prop:=b=g∨v.ownBlock=some b
def RFB(w:World)(g:Nat)(F:Nat->Prop)(L:FT):Prop:=∃v,RF w g v L/\∀b,F b↔zyH g v b
def ChF(FB:World->Nat->(Nat->Prop)->FT->Prop)(w w':World)(g:Nat)(F:Nat->Prop)(L:FT):Prop:=∃F',FB w' g F' L/\Fr w w' F/\∀b,F' b->F b∨w.heap.size<=b
variable{FB:World->Nat->(Nat->Prop)->FT->Prop}{w w1 w2:World}{g:Nat}{F:Nat->Prop}{L:FT}{x:Int}
theorem ChF.of(h:ChF FB w1 w2 g F L)(hb:Bw w w1):ChF FB w w2 g F L:=by
 obtain⟨F',h1,h2,h3⟩:=h;exact⟨F',h1,Fr.after hb h2,λb hf=>(h3 b hf).imp_right (λc=>Nat.le_trans hb.size c)⟩
theorem ChF.join{F':Nat->Prop}(kw:Fr w w1 F)(hn:∀b,F' b->F b∨w.heap.size<=b)(k:ChF FB w1 w2 g F' L):ChF FB w w2 g F L:=by
 obtain⟨Td,k1,k2,k3⟩:=k;refine⟨Td,k1,⟨k2.1.trans kw.1,k2.2.1.trans kw.2.1,k2.2.2.1.trans kw.2.2.1,Nat.le_trans kw.2.2.2.1 k2.2.2.2.1,λb hb Ka=> ?_⟩,λb hb=> ?_⟩
 ·refine (k2.2.2.2.2 b (Nat.lt_of_lt_of_le hb kw.2.2.2.1) (λc=> ?_)).trans (kw.2.2.2.2 b hb Ka);rcases hn b c with d | d
  ·exact Ka d
  ·omega
 ·rcases k3 b hb with d | d
  ·exact hn b d
  ·exact .inr (Nat.le_trans kw.2.2.2.1 d)
def zjy(o:Option Int):Int:=match o with | some y=>y | none=>0
def abM(L:FT)(v:Value):Nat:=(abv L (ivl v)).length+1
structure Nd where
 id:Int
 par:Int
 pl:Nat->Int
 hid:Bool
instance:Inhabited Nd:=⟨⟨0,0,λ_=>0,false⟩⟩
structure Stt where
 id:Int
 wo:Nat->Int
 sh:Bool
instance:Inhabited Stt:=⟨⟨0,λ_=>0,false⟩⟩
def elF{α:Type}(f:α->Int)(L:List α)(x:Int):Option α:=L.find? (λn=>f n==x)
def ixF{α:Type}(f:α->Int)(L:List α)(x:Int):Int:=match L.findIdx? (λn=>f n==x) with | some i=>(i:Int) | none=> -1
def zap(L:List Nd)(x:Int):Int:=match elF Nd.id L x with
 | none=> -1
 | some n=>if n.par<0∨(elF Nd.id L n.par).isNone=true then -1 else n.par
def zgZ(L:List Nd):Nat->Int->Int
 | 0,x=>x
 | k+1,x=>if 0<=x then zgZ L k (zap L x) else x
def zhE(L:List Nd)(x:Int):Bool:=decide (0<=zgZ L (L.length+1) (zap L x))
def zg0(L:List Nd)(n:Nd):List Nd:=L.filter (λm=>m.id != n.id)++[n]
def withS(L l:List Nd):List Nd:=l.foldl zg0 L
def zhF(n:Nd):Bool:= !okM n.pl || decide (n.id<0)
structure FD where
 L:List Nd
 dirty:List Int
 begun:Bool
 sts:List Stt
 steps:Nat
def FD0:FD:=⟨[],[],false,[],0⟩
def zct(D:FD)(l:List Nd):Int:=if l.any zhF then 1 else if (withS D.L l).any (λn=>zhE (withS D.L l) n.id) then 8 else 0
def zcu(D:FD)(l:List Nd):FD:=if zct D l=0 then { D with L:=withS D.L l,dirty:=D.dirty++l.map Nd.id } else D
def zcx(D:FD)(x:Int):Bool:=(elF Nd.id D.L x).isSome
def za2(D:FD)(x:Int):FD:=if zcx D x then { D with L:=D.L.filter (λm=>m.id != x),dirty:=D.dirty++(D.L.filter (λn=>zap D.L n.id==x)).map Nd.id } else D
def zbJ(L:List Nd):List Int:=zbY (L.map Nd.id)
def zaj(L:List Nd):FT:=L.filterMap (λn=>if 0<=zap L n.id then some (n.id,zap L n.id) else none)
def zbU(D:FD):List Int:=if D.begun then D.dirty.filter (λx=>decide (x∈zbJ D.L)) else zbJ D.L
def zah(D:FD):List Int:=zfO (zaj D.L) (zbU D)
structure Acc where
 out:List Stt
 least:Int
 e:Int
def zoD(s:Acc)(x e:Int):Acc:=if s.least<0∨x<s.least then ⟨s.out,x,e⟩ else s
def ztw(L:List Nd)(s:Acc)(x:Int):Acc:=match elF Nd.id L x with
 | none=>s
 | some n=>if zap L n.id<0 then ⟨s.out++[⟨n.id,n.pl,!n.hid⟩],s.least,s.e⟩ else match elF Stt.id s.out (zap L n.id) with
  | none=>s
  | some u=>if 16<(abv (zaj L) n.id).length+1 then zoD s n.id 7 else if zaG u.wo n.pl=0 then ⟨s.out++[⟨n.id,zbB u.wo n.pl,u.sh && !n.hid⟩],s.least,s.e⟩ else zoD s n.id (zaG u.wo n.pl)
def zbq(L:List Nd):List Int:=zfO (zaj L) (zbJ L)
def ziM(L:List Nd):Acc:=(zbq L).foldl (ztw L) ⟨[],-1,0⟩
def zeC(D:FD):Int:=(ziM D.L).e
def zc4(D:FD):FD:={ D with dirty:=[],begun:=decide (zeC D=0),sts:=if zeC D=0 then (ziM D.L).out else [],steps:=D.steps+(zah D).length }
def zfQ(D:FD)(x:Int):Option Stt:=if D.begun=true/\x∉zah D/\(elF Nd.id D.L x).isSome=true then elF Stt.id D.sts x else none
section
variable {α:Type} {f:α->Int} {L:List α} {x:Int} {n:α}
theorem zqV(h:elF f L x=some n):∃k:Nat,ixF f L x=(k:Int)/\L[k]? =some n/\k<L.length/\f n=x:=by
 unfold elF at h;have hx:=find?_some h
 cases hf:L.findIdx? (λn=>f n==x) with
 | none=>
  rw[findIdx?_eq_none_iff]at hf;have:=hf n (mem_of_find?_eq_some h);rw[this]at hx
  cases hx
 | some k=>
  obtain⟨hlt,Yw,s9⟩:=findIdx?_eq_some_iff_getElem.1 hf;refine⟨k,by unfold ixF;rw[hf],?_,hlt,by simpa using hx⟩;rw[find?_eq_some_iff_getElem]at h;obtain⟨_,i,hi,e,hno⟩:=h;have:i=k:=by
   rcases Nat.lt_trichotomy i k with c | c | c
   ·have:=s9 i c;rw[e]at this;exact absurd hx this
   ·exact c
   ·have:=hno k c;rw[Yw]at this
    cases this
  subst this;rw[getElem?_eq_getElem hlt,e]
end
theorem zcb{L:List Nd}(h:elF Nd.id L x=none):zap L x= -1:=by
 unfold zap;rw[h]
theorem zbn{L:List Nd}{n:Nd}(h:elF Nd.id L x=some n):zap L x=if n.par<0∨(elF Nd.id L n.par).isNone=true then -1 else n.par:=by
 unfold zap;rw[h]
def cNd(n:Nd):List Value:=[.int .i64 n.id,.int .i64 n.par,.int .i64 (n.pl 0),.int .i64 (n.pl 1),.int .i64 (n.pl 2),.int .i64 (n.pl 3),.int .i64 (n.pl 4),.int .i64 (n.pl 5),.int .i64 (n.pl 6),.int .i64 (n.pl 7),.int .i64 (n.pl 8),.int .i64 (n.pl 9),.int .i64 (n.pl 10),.int .i64 (n.pl 11),.bool n.hid]
def cSt(s:Stt):List Value:=[.int .i64 s.id,.int .i64 (s.wo 0),.int .i64 (s.wo 1),.int .i64 (s.wo 2),.int .i64 (s.wo 3),.int .i64 (s.wo 4),.int .i64 (s.wo 5),.int .i64 (s.wo 6),.int .i64 (s.wo 7),.int .i64 (s.wo 8),.int .i64 (s.wo 9),.int .i64 (s.wo 10),.int .i64 (s.wo 11),.bool s.sh]
theorem zft(n:Nd):(cNd n).length=15:=rfl
abbrev zyI:=RowX 15 cNd
abbrev SRow:=RowX 14 cSt
theorem zlL(n:Nd):∀u∈cNd n,u.oneCell'=true:=λu hu=>by
 unfold cNd at hu;simp only[mem_cons,not_mem_nil,or_false]at hu;rcases hu with h | h | h | h | h | h | h | h | h | h | h | h | h | h | h <;> (rw[h];rfl)
structure NX (X:List Value) (n:Nd):Prop where
 eq:X=cNd n
 len:X.length=15
 size:(prog.info? 163).map (·.size)=some X.length
 one:∀u∈X,u.oneCell'=true
 bs:∀W,(Instr.buildSlice 34 1 #[(0,.agg X.toArray)]).run prog W= .ok (.slice (some ⟨W.heap.size,0,none⟩) 1 1) (W.alloc (.cells X.toArray 163))
end Go.Proofs.YtlibdcmcbinfnaaGreat
