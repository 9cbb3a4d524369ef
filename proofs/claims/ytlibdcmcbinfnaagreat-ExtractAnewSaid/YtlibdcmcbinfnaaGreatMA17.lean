/- Lemmas. -/
import Derived.Test.YtlibdcmcbinfnaaGreatMA16
set_option maxHeartbeats 100000000
set_option maxRecDepth 1000000
namespace Go.Proofs.YtlibdcmcbinfnaaGreat
open _root_.Go.Proofs.Tryz List Nat
open Go.RowKit
variable{j:Nat}
theorem ztx{α:Type}{l:List α}{p:α->Bool}{m:α}(h:l[j]? =some m):(l.take (j+1)).any p=((l.take j).any p || p m):=by
 rw[take_add_one,h,any_append];simp
theorem zqW{α:Type}{l:List α}{p:α->Bool}{m:α}(h:l[j]? =some m)(hp:p m=true):l.any p=true:=any_eq_true.2 ⟨m,mem_of_getElem? h,hp⟩
def AwX(F:Nat->Prop)(a:Option Addr)(n:Nat):Prop:=n=0∨∀ad,a=some ad->¬F ad.block
theorem zh0{α:Type}{k:Nat}{c:α->List Value}{w w':World}{a:Option Addr}{n:Nat}{X:List α}{F:Nat->Prop}(h:RowX k c w a n X)(ha:AwX F a n)(hf:Fr w w' F):RowX k c w' a n X:=by
 refine⟨h.1,h.2.1,?_⟩;rcases h.2.2 with c | ⟨b,off,e,hb,hr⟩
 ·exact .inl c
 ·rcases ha with q | q
  ·exact .inl q
  ·exact .inr ⟨b,off,e,Nat.lt_of_lt_of_le hb hf.2.2.2.1,λi x hx=>zaF (hr i x hx) (hf.2.2.2.2 b hb (q _ e))⟩
structure DInv (w wr:World) (g:Nat) (F:Nat->Prop) (D:FD) (x:Int) (k:Nat) (v6 vl vd vs:Value):Prop where
 out:OwnX 15 cNd 163 wr w.heap.size v6 ((D.L.take k).filter (λm=>m.id != x))
 rw_:RW wr g { D with dirty:=D.dirty++((D.L.take k).filter (λn=>zap D.L n.id==x)).map Nd.id } vl vd vs
 fr:Fr w wr F
 sub:∀b,zyJ g vl vd vs b->F b∨w.heap.size<=b
 far:∀b,v6.ownBlock=some b->¬zyJ g vl vd vs b
 old:∀b,vl.ownBlock=some b->b<w.heap.size
end Go.Proofs.YtlibdcmcbinfnaaGreat
