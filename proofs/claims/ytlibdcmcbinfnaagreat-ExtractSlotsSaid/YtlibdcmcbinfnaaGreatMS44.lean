/- Lemmas. -/
import Derived.Test.YtlibdcmcbinfnaaGreatMS43
set_option maxHeartbeats 100000000
set_option maxRecDepth 1000000
namespace Go.Proofs.YtlibdcmcbinfnaaGreat
open _root_.Go.Proofs.Tryz List Nat
open Go.RowKit
theorem zkT:∀ (X:List LK) {T:FT},WF T->WF (zcg T X).1
 | [],_,h=>h
 | lk::r,T,h=>by
  unfold zcg
  by_cases c:lk.2<0
  ·rw[if_pos c];exact zkT r h
  ·rw[if_neg c]
   by_cases d:zbq T lk.1 lk.2=0
   ·rw[if_pos d];have:=h.set9 lk.1 lk.2;unfold zbD at this;rw[if_pos d]at this;exact zkT r this
   ·rw[if_neg d];exact h
theorem zmt:∀ (X:List LK) (T:FT),(zcg T X).1.length<=T.length+X.length
 | [],T=>Nat.le_refl _
 | lk::r,T=>by
  unfold zcg
  by_cases c:lk.2<0
  ·rw[if_pos c];have:=zmt r T;rw[length_cons];omega
  ·rw[if_neg c]
   by_cases d:zbq T lk.1 lk.2=0
   ·rw[if_pos d];have:=zmt r (setF T lk.1 lk.2);have:=znW T lk.1 lk.2;rw[length_cons];omega
   ·rw[if_neg d];show T.length<=_;omega
def zkX(T:FT)(X Y:List LK):FT:=if (zcg (zay T (X.map Prod.fst)) X).2=0 then (zcg (zay T (X.map Prod.fst)) X).1 else (zcg (zay (zcg (zay T (X.map Prod.fst)) X).1 (Y.map Prod.fst)) Y).1
variable{a:Option Addr}{n cap j:Nat}{m:Int->Option Nd}{K:List Int}{z x:Int}{l:List Nd}{T:FT}{Ff:Nat->Prop}
section
variable {w:World} {p:Wp}
theorem zpc(h:LW w p)(hW:WF p.T){a b:Option Addr}{n m cap cap':Nat}{X Y:List LK}(row:RowX 2 cLk w a n X)(ha:AwX (zba p) a n)(hX:∀k∈X,Rg k.1/\Rg k.2)(zx5:RowX 2 cLk w b m Y)(sR:AwX (zba p) b m)(hY:∀k∈Y,Rg k.1/\Rg k.2)(hin:∀ad,b=some ad->m=0∨ad.block<w.heap.size)(ku:p.T.length+n+m<=1000):
  Calls prog 126 #[.pointer (some ⟨p.g,0,none⟩),.slice a n cap,.slice b m cap'] w λe w'=>e= .returned (.int .i64 (zcg (zay p.T (X.map Prod.fst)) X).2)/\∃Ff,ChL w w' p (wT p (zkX p.T X Y) Ff):=by
 have Za:=row.1;have H1:=kA (zkS (cap:=cap) h hW row ha hX om)
 have H2:Hid (∀u Ff,ChL w u p (wT p (zcg (zay p.T (X.map Prod.fst)) X).1 Ff)->Calls prog 192 #[.pointer (some ⟨p.g,0,none⟩),.slice b m cap'] u λe w'=>∃z,e= .returned (.int .i64 z)/\∃Ff,ChL w w' p (wT p (zcg (zay (zcg (zay p.T (X.map Prod.fst)) X).1 (Y.map Prod.fst)) Y).1 Ff)):=kA (λu Ff k=>by
  refine (zkS (cap:=cap') k.1 (zkT X (WF.frees _ hW)) (zhV zx5 sR k.2.1) ?_ hY ?_).mono ?_
  ·rcases sR with c | c
   ·exact .inl c
   ·by_cases hm:m=0
    ·exact .inl hm
    ·refine .inr (λad e hf=> ?_);rcases k.2.2 ad.block hf with d | d
     ·exact c ad e d
     ·rcases hin ad e with q | q
      ·exact hm q
      ·omega
  ·show (zcg (zay p.T (X.map Prod.fst)) X).1.length+m<=1000;have:=zmt X (zay p.T (X.map Prod.fst));have:=zdM (X.map Prod.fst) p.T;omega
  ·rintro e w' ⟨rfl,KJ,hc⟩
   exact⟨_,rfl,KJ,k.join hc⟩)
 have xn:zkX p.T X Y=if (zcg (zay p.T (X.map Prod.fst)) X).2=0 then (zcg (zay p.T (X.map Prod.fst)) X).1 else (zcg (zay (zcg (zay p.T (X.map Prod.fst)) X).1 (Y.map Prod.fst)) Y).1:=rfl
 obtain⟨R,hR⟩:∃R,R=zcg (zay p.T (X.map Prod.fst)) X:=⟨_,rfl⟩;obtain⟨R2,Td⟩:∃R2,R2=(zcg (zay R.1 (Y.map Prod.fst)) Y).1:=⟨_,rfl⟩;rw[<-hR]at H1 H2 xn ⊢;rw[<-Td]at H2 xn;have C3:=kA xn;obtain⟨E,hE⟩:∃E,E=R.2:=⟨_,rfl⟩;rw[<-hE]at H1 C3 ⊢;clear h hW row ha hX zx5 sR hY hin hR Td hE xn;go_enter func126,ntmps126;go_wp2_with fail;refine H1.mono ?_;rintro e w1 ⟨rfl,Ff,hc⟩;have HC:=kA hc;have H3:=kA (H2 w1 Ff hc);clear hc H1 H2
 by_cases dI:E=0
 ·have DC:Hid (zkX p.T X Y=R.1):=kA (by rw[C3.out,if_pos dI]);clear H3 C3;subst dI;go_wp2;go_ret;exact⟨rfl,Ff,by rw[DC.out];exact HC.out⟩
 ·go_wp2_with fail;refine H3.mono ?_;rintro e w2 ⟨z,rfl,KJ,hc⟩;have Kp:=kA hc;clear hc H3;go_wp2;go_ret;exact⟨rfl,KJ,by rw[C3.out,if_neg dI];exact Kp.out⟩
end
def wnt(m:Int->Option Nd)(x:Int):Int:=if ((m x).getD zNd).par< -1 then -1 else ((m x).getD zNd).par
def toL(T:FT)(m:Int->Option Nd)(K:List Int):List LK:=K.filterMap (λx=>if zcf T x=wnt m x then none else some (x,wnt m x))
def zbz(T:FT)(m:Int->Option Nd)(K:List Int):List LK:=K.filterMap (λx=>if zcf T x=wnt m x then none else some (x,zcf T x))
theorem zss{f:Int->Option LK}(h:K[j]? =some z):(K.take (j+1)).filterMap f=(K.take j).filterMap f++(f z).toList:=by
 rw[take_add_one,h,filterMap_append]
 cases q:f z <;> simp[q]
theorem zvM(f:Int->Option LK)(K:List Int)(j:Nat):((K.take j).filterMap f).length<=K.length:=by
 have h1:=length_filterMap_le f (K.take j);rw[length_take]at h1;omega
theorem zjl(x:LK):(cLk x).length=2:=rfl
theorem zst(x:LK):∀u∈cLk x,u.oneCell'=true:=λu hu=>by
 unfold cLk at hu;simp only[mem_cons,not_mem_nil,or_false]at hu;rcases hu with h | h <;> (rw[h];rfl)
theorem zsu:(prog.info? 283).map (λi=>(i.zero,i.size,i.bytes))=some (some (.agg #[.int .i64 0,.int .i64 0]),2,16):=oM
theorem zc2{ops:Array Oper}{S:World->Prop}{op:Oper}{a:Go.Act}(hw:Region.wanted op (yielded ops a.tmps)=true)(t:TypeId)(x:Operand)(k:Nat)(ho:op.op= .field t x k)(vx vr:Value)(hx:a.eval x=vx)
  (Hi:∀W,(Instr.field t vx k).run prog W= .ok vr W):YieldsIf prog ops S op vr a:=
 .inl ⟨hw,λw _=>by
  unfold execOp;simp only[ho]
  simp[hx,Hi]⟩
theorem zxR(a b:Int)(M:Nat->Int)(h:Bool)(W:World):(Instr.field 205 (.agg #[.int .i64 a,.int .i64 b,.int .i64 (M 0),.int .i64 (M 1),.int .i64 (M 2),.int .i64 (M 3),.int .i64 (M 4),.int .i64 (M 5),.int .i64 (M 6),.int .i64 (M 7),.int .i64 (M 8),.int .i64 (M 9),.int .i64 (M 10),.int .i64 (M 11),.bool h]) 1).run prog W= .ok (.int .i64 b) W:=oM
theorem zsv(x y:Int)(W:World):(Instr.buildSlice 210 1 #[(0,.agg ([.int .i64 x,.int .i64 y]:List Value).toArray)]).run prog W= .ok (.slice (some ⟨W.heap.size,0,none⟩) 1 1) (W.alloc (.cells ([.int .i64 x,.int .i64 y]:List Value).toArray 283)):=oM
abbrev zkY:=OwnX 2 cLk 283
section
variable {w:World} {p:Wp}
theorem zmu(h:LW w p){gl:Nat}{m:Int->Option Nd}(hm:MF nK w gl m){a:Option Addr}{n cap:Nat}{K:List Int}(row:Row w a n K)(hn:n<=1000)(hK:Rgs K):
  Calls prog 125 #[.pointer (some ⟨p.g,0,none⟩),.slice a n cap,.map (some gl)] w λe w'=>∃v1 v2,e= .returned (.tuple #[v1,v2])/\zkY w' w.heap.size v1 (toL p.T m K)/\zkY w' w.heap.size v2 (zbz p.T m K)/\Bw w w':=by
 have Hy:=row.2.1;have Kb:=kA row.1;have hJ:Hid (∀u,Bw w u->Row u a n K):=kA (λu q=>zar row q);have Do:Hid (∀u z,Bw w u->Rg z->Calls prog 191 #[.pointer (some ⟨p.g,0,none⟩),.int .i64 z] u λe w'=>e= .returned (.int .i64 (zcf p.T z))/\u=w'):=kA (λu z q hz=>zfS (h.keep q) hz);have d9:Hid (∀u z,Bw w u->Rg z->(Instr.lookup 204 (.map (some gl)) (.int .i64 z) false).run prog u= .ok (.agg #[.int .i64 ((m z).getD zNd).id,.int .i64 ((m z).getD zNd).par,.int .i64 (((m z).getD zNd).pl 0),.int .i64 (((m z).getD zNd).pl 1),.int .i64 (((m z).getD zNd).pl 2),.int .i64 (((m z).getD zNd).pl 3),.int .i64 (((m z).getD zNd).pl 4),.int .i64 (((m z).getD zNd).pl 5),.int .i64 (((m z).getD zNd).pl 6),.int .i64 (((m z).getD zNd).pl 7),.int .i64 (((m z).getD zNd).pl 8),.int .i64 (((m z).getD zNd).pl 9),.int .i64 (((m z).getD zNd).pl 10),.int .i64 (((m z).getD zNd).pl 11),.bool ((m z).getD zNd).hid]) u):=kA (λu z q hz=>(hm.keep q).get hz);have Zv:=kA hK
 have KF:Hid (∀j z,K[j]? =some z->toL p.T m (K.take (j+1))=toL p.T m (K.take j)++(if zcf p.T z=wnt m z then [] else [(z,wnt m z)])/\zbz p.T m (K.take (j+1))=zbz p.T m (K.take j)++(if zcf p.T z=wnt m z then [] else [(z,zcf p.T z)])):=kA (λj z hz=>by
  unfold toL zbz;rw[zss hz,zss hz]
  by_cases c:zcf p.T z=wnt m z
  ·simp only[if_pos c];exact⟨rfl,rfl⟩
  ·simp only[if_neg c];exact⟨rfl,rfl⟩)
 have kG:Hid (∀j,(toL p.T m (K.take j)).length<=n/\(zbz p.T m (K.take j)).length<=n):=kA (λj=>by
  rw[<-row.1]
  exact⟨zvM _ K j,zvM _ K j⟩)
 obtain⟨g,hge⟩:∃g,g=p.g:=⟨_,rfl⟩;obtain⟨T,hT⟩:∃T,T=p.T:=⟨_,rfl⟩;rw[<-hge]at Do ⊢;rw[<-hT]at Do KF kG ⊢;clear h hm row hK hge hT;go_enter func125,ntmps125;go_wp2
 go_loopw [6,7,9,10,11,14] (λv6 v7 _ _ _ i wr=>∃j:Nat,j<=n/\i= .int .i64 j/\zkY wr w.heap.size v6 (toL T m (K.take j))/\zkY wr w.heap.size v7 (zbz T m (K.take j))/\(∀b,v6.ownBlock=some b->v7.ownBlock≠some b)/\Bw w wr) (λ_ _ _ _ _ i _=>n - (ivl i).toNat)
 case atStart=>exact⟨0,om,rfl,OwnX.nil _ _ _ _ _,OwnX.nil _ _ _ _ _,λb e=>(by cases e),Below.refl _ _⟩
 case round=>
  obtain⟨j,hj,rfl,h1,h2,h3,hb⟩:=hrel;have DW:=kA h1;have dy:=kA h2;have KH:=kA h3;have HB:=kA hb;have kO:=hJ.out wr hb;have sS:w.heap.size<=wr.heap.size:=hb.size;clear h1 h2 h3 hb
  by_cases hlt:j<n
  ·obtain⟨b,off,z,rfl,hz,cz⟩:=zch kO hlt;have Ht:=World.block_lt_of_cell? _ _ cz;have Ki:=Zv.out z (mem_of_getElem? hz);have Hu:=kA (KF j z hz);have sT:Hid (∀u,Bw wr u->Calls prog 191 #[.pointer (some ⟨g,0,none⟩),.int .i64 z] u λe w'=>e= .returned (.int .i64 (zcf T z))/\u=w'):=kA (λu q=>Do.out _ z (zad HB q) Ki);have xH:Hid (∀u,Bw wr u->(Instr.lookup 204 (.map (some gl)) (.int .i64 z) false).run prog u= .ok (.agg #[.int .i64 ((m z).getD zNd).id,.int .i64 ((m z).getD zNd).par,.int .i64 (((m z).getD zNd).pl 0),.int .i64 (((m z).getD zNd).pl 1),.int .i64 (((m z).getD zNd).pl 2),.int .i64 (((m z).getD zNd).pl 3),.int .i64 (((m z).getD zNd).pl 4),.int .i64 (((m z).getD zNd).pl 5),.int .i64 (((m z).getD zNd).pl 6),.int .i64 (((m z).getD zNd).pl 7),.int .i64 (((m z).getD zNd).pl 8),.int .i64 (((m z).getD zNd).pl 9),.int .i64 (((m z).getD zNd).pl 10),.int .i64 (((m z).getD zNd).pl 11),.bool ((m z).getD zNd).hid]) u):=kA (λu q=>d9.out _ z (zad HB q) Ki);have jh:wnt m z=if ((m z).getD zNd).par< -1 then -1 else ((m z).getD zNd).par:=rfl
   obtain⟨nd,XE⟩:∃nd,nd=(m z).getD zNd:=⟨_,rfl⟩;rw[<-XE]at xH jh;obtain⟨pr,YF⟩:∃pr,pr=nd.par:=⟨_,rfl⟩;rw[<-YF]at xH jh;obtain⟨hd,yE⟩:∃hd,hd=zcf T z:=⟨_,rfl⟩;obtain⟨wv,Te⟩:∃wv,wv=wnt m z:=⟨_,rfl⟩;rw[<-yE]at sT Hu;rw[<-Te]at Hu jh;have Tf:=kA jh;have j0:(0:Int)<=(j:Int):=om;have j1:(j:Int)<(n:Int):=om;clear kO hz Ki XE YF yE Te jh;go_wp2;have nB:max pr (-1)=wv:=by rw[Tf.out];split <;> omega
   refine wp_region_held_drew (S:=λw'=>(Instr.lookup 204 (.map (some gl)) (.int .i64 z) false).run prog w'= .ok (.agg #[.int .i64 nd.id,.int .i64 pr,.int .i64 (nd.pl 0),.int .i64 (nd.pl 1),.int .i64 (nd.pl 2),.int .i64 (nd.pl 3),.int .i64 (nd.pl 4),.int .i64 (nd.pl 5),.int .i64 (nd.pl 6),.int .i64 (nd.pl 7),.int .i64 (nd.pl 8),.int .i64 (nd.pl 9),.int .i64 (nd.pl 10),.int .i64 (nd.pl 11),.bool nd.hid]) w') oM (xH _ (zaw wr)) (λhHeld=> ?_);refine tk 0 hHeld ?_;refine tk 1 hHeld ?_;refine tk 3 hHeld ?_;refine tk 4 hHeld ?_;refine tk 5 hHeld ?_;refine wpAnyH_take (i:=6) (v:= .int .i64 pr) rfl oM oM oM (λ_ _ _ h=>h) (zc2 (by rfl) 205 _ 1 rfl (.agg #[.int .i64 nd.id,.int .i64 pr,.int .i64 (nd.pl 0),.int .i64 (nd.pl 1),.int .i64 (nd.pl 2),.int .i64 (nd.pl 3),.int .i64 (nd.pl 4),.int .i64 (nd.pl 5),.int .i64 (nd.pl 6),.int .i64 (nd.pl 7),.int .i64 (nd.pl 8),.int .i64 (nd.pl 9),.int .i64 (nd.pl 10),.int .i64 (nd.pl 11),.bool nd.hid]) _ rfl (zxR _ _ _ _)) hHeld ?_;simp only[Act.put,getElem_toArray,getElem_cons_zero,getElem_cons_succ,setIfInBounds_toArray,set_cons_zero,set_cons_succ];refine tk 7 hHeld ?_;refine rd 2 (λK hK=> ?_);go_simp
   go_at_call 191
   refine (sT _ (zaw wr)).mono ?_;rintro e w9 ⟨rfl,rfl⟩;go_wp2_with fail;refine hK.out _ _ (xH _ (zaw wr)) (λhHeld=> ?_);clear hK K;refine tk 8 hHeld ?_;refine tk 9 hHeld ?_;refine wpAnyH_done oM ?_ _;refine fin (λW=>zkY W w.heap.size u6 (toL T m (K.take j))/\zkY W w.heap.size u7 (zbz T m (K.take j))/\Bw w W) ⟨DW.keep (zaw wr),dy.keep (zaw wr),zad HB (zaw wr)⟩ ?_;clear DW dy HB Ht cz sT xH nB Tf;rintro W ⟨h1,h2,hb⟩;have DW:=kA h1;have dy:=kA h2;have HB:=kA hb;have Kr:w.heap.size<=W.heap.size:=hb.size;clear h1 h2 hb sS
   by_cases Ho:hd=wv
   ·have D6:Hid (toL T m (K.take (j+1))=toL T m (K.take j)/\zbz T m (K.take (j+1))=zbz T m (K.take j)):=kA (by
     have:=Hu.out;rw[if_pos Ho,if_pos Ho,append_nil,append_nil]at this
     exact this)
    have sU:(hd != wv)=false:=by simpa using Ho
    go_wp2;go_roundw
    case rel=>exact⟨j+1,om,by go_num,by rw[D6.1];exact DW.out,by rw[D6.2];exact dy.out,KH.out,HB⟩
    case measure=>simp[ivl] <;> omega
   ·have D6:Hid (toL T m (K.take (j+1))=toL T m (K.take j)++[(z,wv)]/\zbz T m (K.take (j+1))=zbz T m (K.take j)++[(z,hd)]):=kA (by
     have:=Hu.out;rw[if_neg Ho,if_neg Ho]at this
     exact this)
    have sU:(hd != wv)=true:=by simpa using Ho
    have CJ:=(kG j).1;have Zj:=(kG j).2
    go_wp2_with (first
     | refine zfp rfl 210 283 (.tmp 32) rfl [.int .i64 z,.int .i64 wv] rfl (zsv z wv) ?_
     | (at_builtin;refine zbu rfl (.tmp 29) (.tmp 33) 210 16 (.agg #[.int .i64 0,.int .i64 0]) rfl underlying210 zsu rfl (by decide) (by decide) zjl (z,wv) (zst _) rfl (DW.keep (zaa _ _)) W.heap.size 1 rfl (zac (X:=cLk (z,wv)) (Blk.new W _ _)) om (by simp;omega) ?_))
    intro ZK W2 k1 k2 k3;have Hf:Bw W (W.alloc (.cells ([.int .i64 z,.int .i64 wv]:List Value).toArray 283)):=zaa _ _
    have HA:Hid (zkY W2 w.heap.size ZK (toL T m (K.take (j+1)))/\zkY W2 w.heap.size u7 (zbz T m (K.take j))/\(∀b,ZK.ownBlock=some b->u7.ownBlock≠some b)/\Bw w W2):=kA (by
     have h7:=dy.keep Hf;refine⟨by rw[D6.1];exact k1,h7.same (λb e=>k2.block b (h7.lt b e).2 (λq=>KH.out b q.symm e)),λb e q=> ?_,?_⟩
     ·rcases k3 with c | c
      ·exact KH.out b (c ▸ e) q
      ·rw[c]at e;injection e with e;have:=(dy.lt b q).2
       try simp at e
       omega
     ·have kj:=zad HB Hf
      exact⟨k2.os.trans kj.os,k2.tape.trans kj.tape,k2.output.trans kj.output,Nat.le_trans kj.size k2.size,λq hq=>(k2.block q (Nat.lt_of_lt_of_le hq kj.size) (λe=>by have:=((DW.keep Hf).lt _ e.symm).1;omega)).trans (kj.block q hq)⟩)
    clear k1 k2 k3 Hf DW dy KH HB Kr;refine fin (λW=>zkY W w.heap.size ZK (toL T m (K.take (j+1)))/\zkY W w.heap.size u7 (zbz T m (K.take j))/\(∀b,ZK.ownBlock=some b->u7.ownBlock≠some b)/\Bw w W) HA ?_;clear HA;rintro W3 ⟨h1,h2,h3,hb⟩;have DW:=kA h1;have dy:=kA h2;have KH:=kA h3;have HB:=kA hb;have Kr:w.heap.size<=W3.heap.size:=hb.size;clear h1 h2 h3 hb
    go_wp2_with (first
     | refine zfp rfl 210 283 (.tmp 38) rfl [.int .i64 z,.int .i64 hd] rfl (zsv z hd) ?_
     | (at_builtin;refine zbu rfl (.tmp 35) (.tmp 39) 210 16 (.agg #[.int .i64 0,.int .i64 0]) rfl underlying210 zsu rfl (by decide) (by decide) zjl (z,hd) (zst _) rfl (dy.keep (zaa _ _)) W3.heap.size 1 rfl (zac (X:=cLk (z,hd)) (Blk.new W3 _ _)) om (by simp;omega) ?_))
    intro TT W4 k1 k2 k3;have Hf:Bw W3 (W3.alloc (.cells ([.int .i64 z,.int .i64 hd]:List Value).toArray 283)):=zaa _ _
    have HA:Hid (zkY W4 w.heap.size ZK (toL T m (K.take (j+1)))/\zkY W4 w.heap.size TT (zbz T m (K.take (j+1)))/\(∀b,ZK.ownBlock=some b->TT.ownBlock≠some b)/\Bw w W4):=kA (by
     have h6:=DW.keep Hf;refine⟨h6.same (λb e=>k2.block b (h6.lt b e).2 (λq=>KH.out b e q.symm)),by rw[D6.2];exact k1,λb e q=> ?_,?_⟩
     ·rcases k3 with c | c
      ·exact KH.out b e (c ▸ q)
      ·rw[c]at q;injection q with q;have:=(DW.lt b e).2
       try simp at q
       omega
     ·have kj:=zad HB Hf
      exact⟨k2.os.trans kj.os,k2.tape.trans kj.tape,k2.output.trans kj.output,Nat.le_trans kj.size k2.size,λq hq=>(k2.block q (Nat.lt_of_lt_of_le hq kj.size) (λe=>by have:=((dy.keep Hf).lt _ e.symm).1;omega)).trans (kj.block q hq)⟩)
    clear k1 k2 k3 Hf DW dy KH HB Kr;go_wp2;go_roundw
    case rel=>exact⟨j+1,om,by go_num,HA⟩
    case measure=>simp[ivl] <;> omega
  ·obtain rfl:j=n:=om;have e0:K.take j=K:=take_of_length_le (by rw[Kb.out];exact Nat.le_refl _);rw[e0]at DW dy;have j1:¬(j:Int)<(j:Int):=om;clear e0 kO;go_wp2;go_ret2;exact⟨_,_,rfl,DW.out,dy.out,HB⟩
end
def zxS(m:Int->Option Nd)(l:List Nd):Int->Option Nd:=l.foldl (λm n=>upm m n.id (some n)) m
def zas(l:List Nd):Int->Option Nd:=zxS (λ_=>none) l
theorem zkU:∀ (l:List Nd) (m:Int->Option Nd) (x:Int),zxS m l x=(zas l x).or (m x)
 | [],m,x=>rfl
 | n::l,m,x=>by
  have h1:=zkU l (upm m n.id (some n)) x;have h2:=zkU l (upm (λ_=>none) n.id (some n)) x;show zxS (upm m n.id (some n)) l x=(zxS (upm (λ_=>none) n.id (some n)) l x).or (m x);rw[h1,h2];unfold upm
  by_cases c:x=n.id
  ·rw[if_pos c,if_pos c]
   cases zas l x <;> rfl
  ·rw[if_neg c,if_neg c]
   cases zas l x <;> rfl
theorem zsw{n:Nd}(h:l[j]? =some n):zas (l.take (j+1))=upm (zas (l.take j)) n.id (some n):=by
 unfold zas zxS;rw[take_add_one,h,foldl_append];rfl
theorem zuV{L:List Nd}(hn:(L.map Nd.id).Nodup)(n:Nd)(x:Int):elF Nd.id (zgW L n) x=upm (elF Nd.id L) n.id (some n) x:=by
 unfold upm
 by_cases c:x=n.id
 ·rw[if_pos c,c];exact zdT (zeV hn n) (zb1.2 (.inr rfl))
 ·rw[if_neg c]
  exact zeU hn (λm hm=>by
   rw[zb1]
   exact⟨λq=>q.elim And.left (λe=>absurd (hm.symm.trans (congrArg Nd.id e)) c),λq=>Or.inl ⟨q,λe=>c (hm.symm.trans e)⟩⟩)
theorem zjm:∀ (l:List Nd) {L:List Nd},(L.map Nd.id).Nodup->∀x,elF Nd.id (withS L l) x=(zas l x).or (elF Nd.id L x)
 | [],L,_,x=>rfl
 | n::l,L,h,x=>by
  have ih:=zjm l (zeV h n) x;show elF Nd.id (withS (zgW L n) l) x=(zxS (upm (λ_=>none) n.id (some n)) l x).or (elF Nd.id L x);rw[ih,zkU,zuV h];unfold upm
  by_cases c:x=n.id
  ·rw[if_pos c,if_pos c]
   cases zas l x <;> rfl
  ·rw[if_neg c,if_neg c]
   cases zas l x <;> rfl
theorem zsx:∀ {l:List Nd} {x:Int} {n:Nd},zas l x=some n->n.id=x/\n∈l
 | [],x,n,h=>by cases h
 | m::l,x,n,h=>by
  have h1:(zas l x).or (upm (λ_=>none) m.id (some m) x)=some n:=by rw[<-zkU];exact h
  cases q:zas l x with
  | some n'=>
   rw[q]at h1;have e:n'=n:=by injection h1
   have:=zsx (l:=l) q;rw[e]at this;exact⟨this.1,mem_cons_of_mem _ this.2⟩
  | none=>
   rw[q]at h1;unfold upm at h1
   by_cases c:x=m.id
   ·have h2:(if x=m.id then some m else none)=some n:=h1
    rw[if_pos c]at h2;injection h2 with h2;rw[<-h2];exact⟨c.symm,mem_cons_self⟩
   ·have h2:(if x=m.id then some m else none)=some n:=h1
    rw[if_neg c]at h2
    cases h2
theorem zgg:∀ {l:List Nd} {x:Int},(zas l x).isSome=true↔x∈l.map Nd.id
 | [],x=>by simp[zas,zxS]
 | m::l,x=>by
  have h1:zas (m::l) x=(zas l x).or (upm (λ_=>none) m.id (some m) x):=zkU l _ x;have ih:=zgg (l:=l) (x:=x);rw[h1,map_cons,mem_cons,<-ih];unfold upm
  cases q:zas l x with
  | some n=>simp
  | none=>
   by_cases c:x=m.id
   ·simp[c]
   ·simp[c]
def zax(l:List Nd):List Int:=zff (l.map Nd.id)
theorem mem_keys:x∈zax l↔(zas l x).isSome=true:=by
 unfold zax;rw[zbY,zgg]
theorem zew:∀ (X:List LK) (T:FT) {x:Int},x∉X.map Prod.fst->zak (zcg T X).1 x=zak T x
 | [],_,_,_=>rfl
 | lk::r,T,x,h=>by
  rw[map_cons,mem_cons,not_or]at h;unfold zcg
  by_cases c:lk.2<0
  ·rw[if_pos c];exact zew r T h.2
  ·rw[if_neg c]
   by_cases d:zbq T lk.1 lk.2=0
   ·rw[if_pos d,zew r _ h.2,zbX,if_neg h.1]
   ·rw[if_neg d]
theorem zxT:∀ (X:List LK) (T:FT),(zcg T X).2=0∨(zcg T X).2=8
 | [],_=>Or.inl rfl
 | lk::r,T=>by
  unfold zcg
  by_cases c:lk.2<0
  ·rw[if_pos c];exact zxT r T
  ·rw[if_neg c]
   by_cases d:zbq T lk.1 lk.2=0
   ·rw[if_pos d];exact zxT r _
   ·rw[if_neg d];refine .inr ?_;show zbq T lk.1 lk.2=8;unfold zbq at d ⊢
    split at d
    ·rename_i q;rw[if_pos q]
    ·exact absurd rfl d
theorem zgh:∀ (X:List LK) {T:FT},(X.map Prod.fst).Nodup->(∀c∈X.map Prod.fst,zak T c=none)->(zcg T X).2=0->∀lk∈X,zak (zcg T X).1 lk.1=if lk.2<0 then none else some lk.2
 | [],_,_,_,_,lk,h=>by cases h
 | k::r,T,hn,hf,he,lk,h=>by
  rw[map_cons,nodup_cons]at hn;unfold zcg at he ⊢
  by_cases c:k.2<0
  ·rw[if_pos c]at he ⊢;rcases mem_cons.1 h with rfl | h
   ·rw[zew r T hn.1,hf _ (by simp),if_pos c]
   ·exact zgh r hn.2 (λz hz=>hf z (mem_cons_of_mem _ hz)) he lk h
  ·rw[if_neg c]at he ⊢
   by_cases d:zbq T k.1 k.2=0
   ·rw[if_pos d]at he ⊢;rcases mem_cons.1 h with rfl | h
    ·rw[zew r _ hn.1,zbX,if_pos rfl,if_neg c]
    ·exact zgh r hn.2 (λz hz=>by
      rw[zbX,if_neg (λe:z=k.1=>hn.1 (e ▸ hz))]
      exact hf z (mem_cons_of_mem _ hz)) he lk h
   ·rw[if_neg d]at he;exact absurd he d
theorem zxU{R:FT}(hT:WF T)(hR:WF R)(h:∀x y,zak T x=some y->zak R x=some y){x z:Int}(hz:z∈abv T x):z∈abv R x:=by
 have key:∀ (l:List Int) (x:Int),IsA T x l->z∈l->z∈abv R x:=by
  intro l
  induction l with
  | nil=>intro x _ q;cases q
  | cons y l ih=>
   intro x hx q;rw[za0 hR (h x y hx.1)];rcases mem_cons.1 q with rfl | q
   ·exact mem_cons_self
   ·exact mem_cons_of_mem _ (ih y hx.2 q)
 exact key _ x (hT.isA x) hz
theorem zgi{R:FT}(hR:WF R):∀ (X:List LK) {T:FT},WF T->(∀lk∈X,zak R lk.1=if lk.2<0 then none else some lk.2)->(∀x y,zak T x=some y->zak R x=some y)->(zcg T X).2=0
 | [],_,_,_,_=>rfl
 | k::r,T,hT,hX,hs=>by
  unfold zcg
  by_cases c:k.2<0
  ·rw[if_pos c];exact zgi hR r hT (λlk h=>hX lk (mem_cons_of_mem _ h)) hs
  ·rw[if_neg c];have hk:=hX k mem_cons_self;rw[if_neg c]at hk;have d:zbq T k.1 k.2=0:=by
    unfold zbq;rw[if_neg];rintro (q | q)
    ·have h1:=zxU hT hR hs q;have h2:=za0 hR hk;exact (hR.isA k.1).self (by rw[h2];exact mem_cons_of_mem _ h1)
    ·exact zq2 hR k.1 (by rw[hk,q])
   rw[if_pos d];have Xv:WF (setF T k.1 k.2):=by
    have:=hT.set9 k.1 k.2;unfold zbD at this;rw[if_pos d]at this;exact this
   refine zgi hR r Xv (λlk h=>hX lk (mem_cons_of_mem _ h)) (λx y hx=> ?_);rw[zbX]at hx
   by_cases e:x=k.1
   ·rw[if_pos e]at hx;injection hx with hx;rw[e,hk,hx]
   ·rw[if_neg e]at hx;exact hs x y hx
theorem zzm(T:FT)(m:Int->Option Nd)(K:List Int):(toL T m K).map Prod.fst=K.filter (λx=>decide (zcf T x≠wnt m x))/\(zbz T m K).map Prod.fst=K.filter (λx=>decide (zcf T x≠wnt m x)):=by
 unfold toL zbz
 induction K with
 | nil=>exact⟨rfl,rfl⟩
 | cons a K ih=>
  by_cases c:zcf T a=wnt m a
  ·rw[filterMap_cons_none (by rw[if_pos c]),filterMap_cons_none (by rw[if_pos c]),filter_cons_of_neg (by simp[c])];exact ih
  ·rw[filterMap_cons_some (b:=(a,wnt m a)) (by rw[if_neg c]),filterMap_cons_some (b:=(a,zcf T a)) (by rw[if_neg c]),filter_cons_of_pos (by simpa using c),map_cons,map_cons,ih.1,ih.2];exact⟨rfl,rfl⟩
theorem zsy{lk:LK}:(lk∈toL T m K↔lk.1∈K/\zcf T lk.1≠wnt m lk.1/\lk.2=wnt m lk.1)/\(lk∈zbz T m K↔lk.1∈K/\zcf T lk.1≠wnt m lk.1/\lk.2=zcf T lk.1):=by
 unfold toL zbz;rw[mem_filterMap,mem_filterMap];obtain⟨a,b⟩:=lk;constructor
 ·constructor
  ·rintro⟨x,hx,h⟩
   by_cases c:zcf T x=wnt m x
   ·rw[if_pos c]at h;cases h
   ·rw[if_neg c]at h;injection h with h;injection h with h1 h2;subst h1;exact⟨hx,c,h2.symm⟩
  ·rintro⟨h1,h2,h3⟩;exact⟨a,h1,by rw[if_neg h2];show some (a,wnt m a)=some (a,b);rw[show b=wnt m a from h3]⟩
 ·constructor
  ·rintro⟨x,hx,h⟩
   by_cases c:zcf T x=wnt m x
   ·rw[if_pos c]at h;cases h
   ·rw[if_neg c]at h;injection h with h;injection h with h1 h2;subst h1;exact⟨hx,c,h2.symm⟩
  ·rintro⟨h1,h2,h3⟩;exact⟨a,h1,by rw[if_neg h2];show some (a,zcf T a)=some (a,b);rw[show b=zcf T a from h3]⟩
section
variable {D:FD} {p:Wp} {l:List Nd}
theorem LIf.parM0(h:LIf D p)(x:Int):zak p.T x=if zcf p.T x<0 then none else some (zcf p.T x):=by
 unfold zcf
 cases e:zak p.T x with
 | none=>rfl
 | some y=>
  rw[h.par]at e;obtain⟨n,_,_,c,e2⟩:=zhr.1 (zbo e);show some y=if y<0 then none else some y
  rw[if_neg om]
theorem zsz(hD:DOk D)(h:LIf D p)(x:Int):zak (zev (withS D.L l)) x=if x∈zax l then (if wnt (zas l) x<0 then none else some (wnt (zas l) x)) else zak p.T x:=by
 have qe:=zcL l hD.nod;have he:=zjm l hD.nod x
 by_cases c:x∈zax l
 ·rw[if_pos c];obtain⟨n,hn⟩:=Option.isSome_iff_exists.1 (mem_keys.1 c);rw[hn]at he;rw[zdx qe he];unfold wnt;rw[hn];show (if 0<=n.par then some n.par else none)=if (if n.par< -1 then (-1:Int) else n.par)<0 then none else some (if n.par< -1 then (-1:Int) else n.par)
  by_cases d:n.par< -1
  ·rw[if_pos d,if_neg om,if_pos om]
  ·rw[if_neg d]
   by_cases f:0<=n.par
   ·rw[if_pos f,if_neg om]
   ·rw[if_neg f,if_pos om]
 ·rw[if_neg c];have hno:zas l x=none:=by
   cases q:zas l x with
   | none=>rfl
   | some n=>exact absurd (mem_keys.2 (by rw[q];rfl)) c
  rw[hno]at he;have he:elF Nd.id (withS D.L l) x=elF Nd.id D.L x:=he;rw[h.par]
  cases q:elF Nd.id D.L x with
  | none=>rw[zcE (he.trans q),zcE q]
  | some n=>rw[zdx qe (he.trans q),zdx hD.nod q]
theorem LIf.moves(hD:DOk D)(h:LIf D p)(hb:l.any zhA=false):
  (zcg (zay p.T ((toL p.T (zas l) (zax l)).map Prod.fst)) (toL p.T (zas l) (zax l))).2=zct D l/\WF (zkX p.T (toL p.T (zas l) (zax l)) (zbz p.T (zas l) (zax l)))/\
   (zct D l=0->∀x,zak (zkX p.T (toL p.T (zas l) (zax l)) (zbz p.T (zas l) (zax l))) x=zak (zev (withS D.L l)) x)/\
   (zct D l≠0->∀x,zak (zkX p.T (toL p.T (zas l) (zax l)) (zbz p.T (zas l) (zax l))) x=zak p.T x):=by
 obtain⟨X,hX⟩:∃X,X=toL p.T (zas l) (zax l):=⟨_,rfl⟩;obtain⟨Y,hY⟩:∃Y,Y=zbz p.T (zas l) (zax l):=⟨_,rfl⟩;have eC:=zzm p.T (zas l) (zax l);have yG:=λlk=>zsy (T:=p.T) (m:=zas l) (K:=zax l) (lk:=lk);rw[<-hX,<-hY]at eC ⊢;rw[<-hX,<-hY]at yG;have XE:(X.map Prod.fst).Nodup:=by rw[eC.1];exact (zgZ (zfr _)).sublist filter_sublist
 have hcs:∀x,x∈X.map Prod.fst↔x∈zax l/\zcf p.T x≠wnt (zas l) x:=λx=>by rw[eC.1,mem_filter,decide_eq_true_eq]
 have Xb:Y.map Prod.fst=X.map Prod.fst:=eC.2.trans eC.1.symm;have dv:WF (zay p.T (X.map Prod.fst)):=WF.frees _ h.wf;have kE:∀x,zak (zay p.T (X.map Prod.fst)) x=if x∈X.map Prod.fst then none else zak p.T x:=λx=>zdf x _ _
 have eD:∀lk∈X,zak (zev (withS D.L l)) lk.1=if lk.2<0 then none else some lk.2:=λlk dd=>by
  obtain⟨k1,k2,k3⟩:=(yG lk).1.1 dd;rw[zsz hD h,if_pos k1,k3]
 have ME:∀x,x∉X.map Prod.fst->zak p.T x=zak (zev (withS D.L l)) x:=λx hx=>by
  rw[zsz hD h]
  by_cases c:x∈zax l
  ·rw[if_pos c];have e:zcf p.T x=wnt (zas l) x:=by
    by_cases d:zcf p.T x=wnt (zas l) x
    ·exact d
    ·exact absurd ((hcs x).2 ⟨c,d⟩) hx
   rw[<-e];exact h.parM0 x
  ·rw[if_neg c]
 have d8:(zcg (zay p.T (X.map Prod.fst)) X).2=0->∀x,zak (zcg (zay p.T (X.map Prod.fst)) X).1 x=zak (zev (withS D.L l)) x:=λh0 x=>by
  by_cases c:x∈X.map Prod.fst
  ·obtain⟨lk,dd,e⟩:=mem_map.1 c;have h1:=zgh X XE (λz hz=>by rw[kE,if_pos hz]) h0 lk dd;rw[<-e,h1,eD lk dd]
  ·rw[zew X _ c,kE,if_neg c];exact ME x c
 have qe:=zcL l hD.nod;have ES:zct D l=if (withS D.L l).any (λn=>zhz (withS D.L l) n.id) then 8 else 0:=by
  unfold zct;rw[hb];simp
 have Ei:=zkT X dv
 by_cases h0:zct D l=0
 ·have YX:=zlG qe (zft h0).2;have hR:=zvJ qe YX
  have hg:(zcg (zay p.T (X.map Prod.fst)) X).2=0:=zgi hR X dv eD (λx y hx=>by
   rw[kE]at hx
   by_cases c:x∈X.map Prod.fst
   ·rw[if_pos c]at hx;cases hx
   ·rw[if_neg c]at hx;rw[<-ME x c]
    exact hx)
  have hm:zkX p.T X Y=(zcg (zay p.T (X.map Prod.fst)) X).1:=by unfold zkX;rw[if_pos hg]
  rw[hm];exact⟨by rw[hg,h0],Ei,λ_=>d8 hg,λc=>absurd h0 c⟩
 ·have h8:zct D l=8:=by
   rw[ES]at h0 ⊢
   split
   ·rfl
   ·rename_i q;rw[if_neg q]at h0;exact absurd rfl h0
  have hg:(zcg (zay p.T (X.map Prod.fst)) X).2=8:=by
   rcases zxT X (zay p.T (X.map Prod.fst)) with q | q
   ·exfalso;have gw:=zAu (zmo qe) (d8 q) Ei;have gy:=zzh qe gw;refine h0 ?_;rw[ES,if_neg];rw[any_eq_true];rintro⟨n,_,hr⟩;rw[zke qe gy]at hr
    cases hr
   ·exact q
  have hm:zkX p.T X Y=(zcg (zay (zcg (zay p.T (X.map Prod.fst)) X).1 (Y.map Prod.fst)) Y).1:=by unfold zkX;rw[if_neg (by rw[hg];omega)]
  have MV:∀x,zak (zay (zcg (zay p.T (X.map Prod.fst)) X).1 (Y.map Prod.fst)) x=if x∈X.map Prod.fst then none else zak p.T x:=λx=>by
   rw[zdf,Xb]
   by_cases c:x∈X.map Prod.fst
   ·rw[if_pos c,if_pos c]
   ·rw[if_neg c,if_neg c,zew X _ c,kE,if_neg c]
  have nT:WF (zay (zcg (zay p.T (X.map Prod.fst)) X).1 (Y.map Prod.fst)):=WF.frees _ Ei;have eE:∀lk∈Y,zak p.T lk.1=if lk.2<0 then none else some lk.2:=λlk dd=>by
   obtain⟨_,_,k3⟩:=(yG lk).2.1 dd;rw[k3];exact h.parM0 lk.1
  have Km:(zcg (zay (zcg (zay p.T (X.map Prod.fst)) X).1 (Y.map Prod.fst)) Y).2=0:=zgi h.wf Y nT eE (λx y hx=>by
   rw[MV]at hx
   by_cases c:x∈X.map Prod.fst
   ·rw[if_pos c]at hx;cases hx
   ·rw[if_neg c]at hx;exact hx)
  refine⟨by rw[hg,h8],by rw[hm];exact zkT Y nT,λc=>absurd c h0,λ_ x=> ?_⟩;rw[hm]
  by_cases c:x∈X.map Prod.fst
  ·rw[<-Xb]at c;obtain⟨lk,dd,e⟩:=mem_map.1 c;have h1:=zgh Y (by rw[Xb];exact XE) (λz hz=>by rw[MV,if_pos (by rw[<-Xb];exact hz)]) Km lk dd;rw[<-e,h1,eE lk dd]
  ·rw[zew Y _ (by rw[Xb];exact c),MV,if_neg c]
end
theorem zij{D D':FD}(h:DOk D)(qe:(D'.L.map Nd.id).Nodup)(YX:WF (zaj D'.L))(hb:D'.begun=D.begun)(hd:∀z∈D.dirty,z∈D'.dirty)
  (mS:∀y,y∉D'.dirty->(elF Nd.id D'.L y).isSome=true->elF Nd.id D'.L y=elF Nd.id D.L y)
  (MN:∀y,y∉D'.dirty->(elF Nd.id D'.L y).isSome=true->(0<=zaq D'.L y->zaq D'.L y∉D'.dirty)->zaq D'.L y=zaq D.L y)
  (qu:D'.begun=true){x:Int}(hx:(elF Nd.id D'.L x).isSome=true)(ht:x∉zah D'):
  x∉D'.dirty/\(elF Nd.id D.L x).isSome=true/\x∉zah D/\stv D'.L x=stv D.L x:=by
 have XE:∀y∈x::abv (zaj D'.L) x,y∉D'.dirty:=λy hy Mr=>ht ((zbj YX).2 (by
  rcases mem_cons.1 hy with rfl | hy
  ·exact⟨y,(zb0 qu).2 ⟨Mr,hx⟩,.inl rfl⟩
  ·exact⟨y,(zb0 qu).2 ⟨Mr,zng YX hy⟩,.inr hy⟩))
 obtain⟨k1,k2⟩:=ziU h.nod qe mS MN (abv (zaj D'.L) x) x (YX.isA x) hx XE;have ea:abv (zaj D.L) x=abv (zaj D'.L) x:=(h.wf.isA x).uniq k1;refine⟨XE x mem_cons_self,by rw[<-k2 x mem_cons_self];exact hx,λc=> ?_,?_⟩
 ·obtain⟨y,hy,yc⟩:=(zbj h.wf).1 c;have Mr:=hd y ((zb0 (hb ▸ qu)).1 hy).1;refine XE y ?_ Mr;rcases yc with rfl | q
  ·exact mem_cons_self
  ·rw[ea]at q;exact mem_cons_of_mem _ q
 ·have e1:zcd D'.L x=zcd D.L x:=by
   unfold zcd;rw[ea];exact zes k2
  unfold stv;rw[e1,ea]
section
variable {D:FD} {p:Wp} {l:List Nd}
theorem zsA(hD:DOk D)(h0:zct D l=0)(hb:D.begun=true){x:Int}(hx:(elF Nd.id (withS D.L l) x).isSome=true)(ht:x∉zah (zcz D l)):
  x∉D.dirty++l.map Nd.id/\(elF Nd.id D.L x).isSome=true/\x∉zah D/\stv (withS D.L l) x=stv D.L x:=by
 have Mh:zcz D l={ D with L:=withS D.L l,dirty:=D.dirty++l.map Nd.id }:=by unfold zcz;rw[if_pos h0]
 rw[Mh]at ht;have qe:((withS D.L l).map Nd.id).Nodup:=zcL l hD.nod;have YX:=zlG qe (zft h0).2;have mS:∀y,y∉D.dirty++l.map Nd.id->elF Nd.id (withS D.L l) y=elF Nd.id D.L y:=λy hy=>
  zeU hD.nod (λm hm=>zcM (by rw[hm];exact λq=>hy (mem_append_right _ q)))
 refine zij (D:=D) (D':={ D with L:=withS D.L l,dirty:=D.dirty++l.map Nd.id }) hD qe YX rfl (λz hz=>mem_append_left _ hz) (λy hy _=>mS y hy) (λy hy hs hh=> ?_) hb hx ht;obtain⟨n,e⟩:=Option.isSome_iff_exists.1 hs;have e':elF Nd.id D.L y=some n:=(mS y hy).symm.trans e;have k1:=zbm e;have k2:=zbm e';show zaq (withS D.L l) y=zaq D.L y;have MO:0<=zaq (withS D.L l) y->zaq (withS D.L l) y∉D.dirty++l.map Nd.id:=hh;rw[k1]at MO;rw[k1,k2]
 by_cases p0:n.par<0
 ·rw[if_pos (.inl p0),if_pos (.inl p0)]
 ·by_cases p1:(elF Nd.id (withS D.L l) n.par).isNone=true
  ·have p2:(elF Nd.id D.L n.par).isNone=true:=by
    rw[zd6,ziW]at p1 ⊢;exact λq=>p1 (ziV.2 (.inl q))
   rw[if_pos (.inr p1),if_pos (.inr p2)]
  ·rw[if_neg (λq=>q.elim p0 p1)]at MO ⊢;have:=mS _ (MO om);rw[this]at p1;rw[if_neg (λq=>q.elim p0 p1)]
def zdD(N:Int->Option BD)(m:Int->Option Nd)(K:List Int)(x:Int):Option BD:=if x∈K then some (((m x).getD zNd).pl,((m x).getD zNd).hid) else N x
theorem zpd{N:Int->Option BD}(h:K[j]? =some z):zdD N m (K.take (j+1))=upm (zdD N m (K.take j)) z (some (((m z).getD zNd).pl,((m z).getD zNd).hid)):=by
 funext y;unfold zdD upm;rw[take_add_one,h]
 by_cases c:y=z
 ·rw[if_pos c,if_pos (by rw[c];simp),c]
 ·rw[if_neg c];show _=if y∈K.take j then _ else N y
  by_cases d:y∈K.take j
  ·rw[if_pos d,if_pos (mem_append_left _ d)]
  ·rw[if_neg d,if_neg (λk=>(mem_append.1 k).elim d (λk=>c (by simpa using k)))]
theorem LIf.put(hD:DOk D)(h:LIf D p)(h0:zct D l=0){T:FT}{Ff:Nat->Prop}(hW:WF T)(hT:∀x,zak T x=zak (zev (withS D.L l)) x):
  LIf (zcz D l) (mkP { wT p T Ff with N:=zdD p.N (zas l) (zax l) } (zax l)):=by
 have Mh:zcz D l={ D with L:=withS D.L l,dirty:=D.dirty++l.map Nd.id }:=by unfold zcz;rw[if_pos h0]
 have mS:=zjm l hD.nod;have qs:∀x,x∈zax l↔x∈l.map Nd.id:=λx=>mem_keys.trans zgg;have hno:∀x,x∉zax l->elF Nd.id (withS D.L l) x=elF Nd.id D.L x:=λx c=>by
  rw[mS]
  cases q:zas l x with
  | none=>rfl
  | some n=>exact absurd (mem_keys.2 (by rw[q];rfl)) c
 have J7:∀x,x∈zax l->∃n,zas l x=some n/\elF Nd.id (withS D.L l) x=some n:=λx c=>by
  obtain⟨n,hn⟩:=Option.isSome_iff_exists.1 (mem_keys.1 c);exact⟨n,hn,by rw[mS,hn];rfl⟩
 have hL:(zcz D l).L=withS D.L l:=by rw[Mh]
 refine⟨hW,λx=>by rw[hL];exact hT x,λx=> ?_,λx=> ?_,λx hx=> ?_,λhb x hx ht=> ?_,?_⟩
 ·rw[hL];show zdD p.N (zas l) (zax l) x=_;unfold zdD
  by_cases c:x∈zax l
  ·obtain⟨n,h1,h2⟩:=J7 x c;rw[if_pos c,h1,h2];rfl
  ·rw[if_neg c,hno x c,h.nod]
 ·rw[hL];show (mkM p.M (zax l) x).isSome=true↔_/\((zcz D l).begun=true->x∈(zcz D l).dirty);rw[Mh];show (mkM p.M (zax l) x).isSome=true↔_/\(D.begun=true->x∈D.dirty++l.map Nd.id);unfold mkM
  by_cases c:x∈zax l
  ·obtain⟨n,h1,h2⟩:=J7 x c;rw[if_pos c,h2];exact⟨λ_=>⟨rfl,λ_=>mem_append_right _ ((qs x).1 c)⟩,λ_=>rfl⟩
  ·rw[if_neg c,hno x c,h.mrk];exact⟨λq=>⟨q.1,λb=>mem_append_left _ (q.2 b)⟩,λq=>⟨q.1,λb=>(mem_append.1 (q.2 b)).elim id (λk=>absurd ((qs x).2 k) c)⟩⟩
 ·rw[hL]at hx;show mkS p.S (zax l) x=none;unfold mkS
  by_cases c:x∈zax l
  ·rw[if_pos c]
  ·rw[if_neg c];rw[hno x c]at hx;exact h.non x hx
 ·have qu:D.begun=true:=by rw[Mh]at hb;exact hb
  rw[hL]at hx;obtain⟨k1,k2,k3,k4⟩:=zsA hD h0 qu hx ht;have c:x∉zax l:=λc=>k1 (mem_append_right _ ((qs x).1 c));show mkS p.S (zax l) x=stv (zcz D l).L x;unfold mkS;rw[if_neg c,hL,k4];exact h.sts qu x k2 k3
 ·show p.st=(zcz D l).steps;rw[Mh];exact h.st
theorem LIf.putNo(h:LIf D p){T:FT}{Ff:Nat->Prop}(hW:WF T)(hT:∀x,zak T x=zak p.T x):LIf D (wT p T Ff):=
 ⟨hW,λx=>(hT x).trans (h.par x),h.nod,h.mrk,h.non,h.sts,h.st⟩
theorem zpe(hD:DOk D){x:Int}(hb:D.begun=true){z:Int}(hz:(elF Nd.id (D.L.filter (λm=>m.id != x)) z).isSome=true)
  (ht:z∉zah { D with L:=D.L.filter (λm=>m.id != x),dirty:=D.dirty++(D.L.filter (λn=>zaq D.L n.id==x)).map Nd.id }):
  z∉D.dirty++(D.L.filter (λn=>zaq D.L n.id==x)).map Nd.id/\(elF Nd.id D.L z).isSome=true/\z∉zah D/\stv (D.L.filter (λm=>m.id != x)) z=stv D.L z:=by
 have qe:((D.L.filter (λm=>m.id != x)).map Nd.id).Nodup:=hD.nod.sublist (List.Sublist.map _ filter_sublist);have YX:=zvl hD.nod hD.wf x;have Vh:∀n∈D.L.filter (λm=>m.id != x),n∈D.L:=λn hn=>(mem_filter.1 hn).1;refine zij (D:=D) (D':={ D with L:=D.L.filter (λm=>m.id != x),dirty:=D.dirty++(D.L.filter (λn=>zaq D.L n.id==x)).map Nd.id }) hD qe YX rfl (λz hz=>mem_append_left _ hz) (λy _ hs=> ?_) (λy hy hs _=> ?_) hb hz ht
 ·obtain⟨n,hn,e⟩:=zaM.1 hs;have Ho:y≠x:=by
   have:=(mem_filter.1 hn).2;rw[<-e];simpa using this
  exact zeU hD.nod (λm hm=>by
   rw[mem_filter]
   exact⟨And.left,λq=>⟨q,by simp[hm,Ho]⟩⟩)
 ·obtain⟨n,hn,e⟩:=zaM.1 hs;have Ho:y≠x:=by
   have:=(mem_filter.1 hn).2;rw[<-e];simpa using this
  rcases zeW hD.nod Ho with q | q
  ·exact q
  ·exact absurd (mem_append_right _ (mem_map.2 ⟨n,mem_filter.2 ⟨Vh n hn,by simp[e,q.2]⟩,e⟩)) hy
def zzn(p:Wp)(x:Int)(Ff:Nat->Prop):Wp:={ p with T:=zaG p.T x,Ff:=Ff,N:=upm p.N x none,S:=upm (mkS p.S (chF p.T x)) x none,M:=upm (mkM p.M (chF p.T x)) x none }
theorem LIf.hangers(hD:DOk D)(h:LIf D p){x:Int}(hx:(elF Nd.id D.L x).isSome=true)(z:Int):z∈chF p.T x↔z∈(D.L.filter (λn=>zaq D.L n.id==x)).map Nd.id:=by
 have h0:0<=x:=by
  obtain⟨n,hn,e⟩:=zaM.1 hx;rw[<-e];exact hD.nn n hn
 rw[h.chd hD hx,zaA hD.wf.1,zav hD.nod,mem_map];constructor
 ·intro q
  by_cases c:0<=zaq D.L z
  ·rw[if_pos c]at q;injection q with q;obtain⟨n,hn,e⟩:=ziI c;exact⟨n,mem_filter.2 ⟨hn,by rw[e,q];simp⟩,e⟩
  ·rw[if_neg c]at q;cases q
 ·rintro⟨n,hn,rfl⟩;have:=(mem_filter.1 hn).2;have e:zaq D.L n.id=x:=by simpa using this
  rw[e,if_pos h0]
theorem LIf.drop(hD:DOk D)(h:LIf D p){x:Int}(hx:zcw D x=true)(Ff:Nat->Prop):LIf (za2 D x) (zzn p x Ff):=by
 have qO:za2 D x={ D with L:=D.L.filter (λm=>m.id != x),dirty:=D.dirty++(D.L.filter (λn=>zaq D.L n.id==x)).map Nd.id }:=by unfold za2;rw[if_pos hx]
 have hx':(elF Nd.id D.L x).isSome=true:=hx;have Ej:=h.hangers hD hx';have qe:((D.L.filter (λm=>m.id != x)).map Nd.id).Nodup:=hD.nod.sublist (List.Sublist.map _ filter_sublist)
 have mS:∀z,z≠x->elF Nd.id (D.L.filter (λm=>m.id != x)) z=elF Nd.id D.L z:=λz hz=>zeU hD.nod (λm hm=>by
  rw[mem_filter]
  exact⟨And.left,λq=>⟨q,by simp[hm,hz]⟩⟩)
 have Mt:elF Nd.id (D.L.filter (λm=>m.id != x)) x=none:=zcY.2 (λm hm=>by
  have:=(mem_filter.1 hm).2
  simpa using this)
 rw[qO];refine⟨h.wf.free x,λz=> ?_,λz=> ?_,λz=> ?_,λz hz=> ?_,λhb z hz ht=> ?_,h.st⟩
 ·show zak (zaG p.T x) z=zak (zev (D.L.filter (λm=>m.id != x))) z;rw[za7]
  by_cases c:z=x
  ·rw[if_pos c,c,zcE Mt]
  ·rw[if_neg c,h.par]
   cases q:elF Nd.id D.L z with
   | none=>rw[zcE q,zcE ((mS z c).trans q)]
   | some n=>rw[zdx hD.nod q,zdx qe ((mS z c).trans q)]
 ·show upm p.N x none z=(elF Nd.id (D.L.filter (λm=>m.id != x)) z).map _;unfold upm
  by_cases c:z=x
  ·rw[if_pos c,c,Mt];rfl
  ·rw[if_neg c,mS z c,h.nod]
 ·show (upm (mkM p.M (chF p.T x)) x none z).isSome=true↔(elF Nd.id (D.L.filter (λm=>m.id != x)) z).isSome=true/\(D.begun=true->z∈D.dirty++(D.L.filter (λn=>zaq D.L n.id==x)).map Nd.id);unfold upm
  by_cases c:z=x
  ·rw[if_pos c,c,Mt];simp
  ·rw[if_neg c,mS z c];unfold mkM
   by_cases d:z∈chF p.T x
   ·rw[if_pos d];have d2:=(Ej z).1 d;obtain⟨n,hn,e⟩:=mem_map.1 d2;exact⟨λ_=>⟨zaM.2 ⟨n,(mem_filter.1 hn).1,e⟩,λ_=>mem_append_right _ d2⟩,λ_=>rfl⟩
   ·rw[if_neg d,h.mrk];exact⟨λq=>⟨q.1,λb=>mem_append_left _ (q.2 b)⟩,λq=>⟨q.1,λb=>(mem_append.1 (q.2 b)).elim id (λk=>absurd ((Ej z).2 k) d)⟩⟩
 ·have ZX:elF Nd.id (D.L.filter (λm=>m.id != x)) z=none:=hz;show upm (mkS p.S (chF p.T x)) x none z=none;unfold upm
  by_cases c:z=x
  ·rw[if_pos c]
  ·rw[if_neg c];unfold mkS
   by_cases d:z∈chF p.T x
   ·rw[if_pos d]
   ·rw[if_neg d];exact h.non z ((mS z c).symm.trans ZX)
 ·obtain⟨k1,k2,k3,k4⟩:=zpe hD hb hz ht;have gz:z≠x:=λc=>by
   have ZX:(elF Nd.id (D.L.filter (λm=>m.id != x)) z).isSome=true:=hz;rw[c,Mt]at ZX
   cases ZX
  show upm (mkS p.S (chF p.T x)) x none z=stv (D.L.filter (λm=>m.id != x)) z;unfold upm;rw[if_neg gz];unfold mkS;rw[if_neg (λd=>k1 (mem_append_right _ ((Ej z).1 d))),k4];exact h.sts hb z k2 k3
def zvN(p:Wp)(S:Int->Option RD)(M:Int->Option Unit)(s:Nat):Wp:={ p with S:=S,M:=M,st:=s }
theorem LIf.runOk(hD:DOk D)(h:LIf D p)(h0:zey D=0):LIf (zc4 D) (zvN p (zcR D.L (zah D) p.S (zah D).length) (λ_=>none) (p.st+(zah D).length)):=by
 have hb:(zc4 D).begun=true:=decide_eq_true h0;refine⟨h.wf,h.par,h.nod,λx=> ?_,λx hx=> ?_,λ_ x hx ht=> ?_,?_⟩
 ·show (none:Option Unit).isSome=true↔_/\((zc4 D).begun=true->x∈([]:List Int));rw[hb];simp
 ·show zcR D.L (zah D) p.S (zah D).length x=none;have hx':elF Nd.id D.L x=none:=hx;unfold zcR;rw[if_neg (λc=>by have:=zbn hD.wf c;rw[hx']at this;cases this)];exact h.non x hx'
 ·show zcR D.L (zah D) p.S (zah D).length x=stv D.L x;unfold zcR;rw[take_length]
  by_cases c:x∈zah D
  ·rw[if_pos c,if_pos c]
  ·rw[if_neg c]
   by_cases Hq:D.begun=true
   ·exact h.sts Hq x hx c
   ·refine absurd ((zbj hD.wf).2 ⟨x,?_,.inl rfl⟩) c;unfold zbT;rw[if_neg Hq];exact zbg.2 hx
 ·show p.st+(zah D).length=D.steps+(zah D).length;rw[h.st]
theorem LIf.runNo(hD:DOk D)(h:LIf D p)(h0:zey D≠0)(n:Nat):LIf (zc4 D) (zvN p (mkS (zcR D.L (zah D) p.S n) (zbJ D.L)) (mkM p.M (zbJ D.L)) (p.st+(zah D).length)):=by
 have hb:(zc4 D).begun=false:=decide_eq_false h0;refine⟨h.wf,h.par,h.nod,λx=> ?_,λx hx=> ?_,λb=>(by rw[hb]at b;cases b),?_⟩
 ·show (mkM p.M (zbJ D.L) x).isSome=true↔(elF Nd.id D.L x).isSome=true/\((zc4 D).begun=true->_);rw[hb];unfold mkM
  by_cases c:x∈zbJ D.L
  ·rw[if_pos c];exact⟨λ_=>⟨zbg.1 c,λb=>(by cases b)⟩,λ_=>rfl⟩
  ·rw[if_neg c,h.mrk];exact⟨λq=>absurd (zbg.2 q.1) c,λq=>absurd (zbg.2 q.1) c⟩
 ·have hx':elF Nd.id D.L x=none:=hx;show mkS (zcR D.L (zah D) p.S n) (zbJ D.L) x=none;unfold mkS
  by_cases c:x∈zbJ D.L
  ·rw[if_pos c]
  ·rw[if_neg c];unfold zcR;rw[if_neg (λc=>by have:=zbn hD.wf c;rw[hx']at this;cases this)];exact h.non x hx'
 ·show p.st+(zah D).length=D.steps+(zah D).length;rw[h.st]
theorem LIf.state(hD:DOk D)(h:LIf D p)(x:Int):(stL p x).2=(zfM D x).isSome/\cFs (stL p x).1.1=cFs ((zfM D x).getD zSt):=by
 unfold stL zfM;rw[h.dirty hD]
 by_cases hn:(elF Nd.id D.L x).isSome=true
 ·by_cases ht:x∈zah D
  ·rw[if_pos (decide_eq_true ht),if_neg (λq=>q.2.1 ht)];exact⟨rfl,rfl⟩
  ·have hb:D.begun=true:=by
    by_cases hb:D.begun=true
    ·exact hb
    ·refine absurd ((zbj hD.wf).2 ⟨x,?_,.inl rfl⟩) ht;unfold zbT;rw[if_neg hb];exact zbg.2 hn
   rw[if_neg (by simpa using ht),if_pos ⟨hb,ht,hn⟩];obtain⟨s,h1,h2⟩:=hD.st hb x hn ht;have h3:=h.sts hb x hn ht;have h4:stv D.L x=some (s,(abv (zaj D.L) x).length+1):=by unfold stv;rw[h1];rfl
   rw[h3,h4,h2];exact⟨rfl,rfl⟩
 ·have ht:x∉zah D:=λc=>hn (zbn hD.wf c);have hx:elF Nd.id D.L x=none:=by
   cases q:elF Nd.id D.L x with
   | none=>rfl
   | some n=>rw[q]at hn;exact absurd rfl hn
  rw[if_neg (by simpa using ht),if_neg (λq=>hn q.2.2),h.non x hx];exact⟨rfl,rfl⟩
theorem LIf.zero{p:Wp}(hT:p.T=[])(hN:p.N=λ_=>none)(hS:p.S=λ_=>none)(hM:p.M=λ_=>none)(hs:p.st=0):LIf FD0 p:=by
 refine⟨by rw[hT];exact WF.nil,λx=>(by rw[hT];rfl),λx=>(by rw[hN];rfl),λx=> ?_,λx _=>(by rw[hS]),λb=>(by cases b),hs⟩;rw[hM];exact⟨λq=>(by cases q),λq=>(by cases q.1)⟩
end
def wN(p:Wp)(N':Int->Option BD):Wp:={ p with N:=N' }
theorem zsB(a b:Int)(M:Nat->Int)(h:Bool)(W:World):(Instr.field 205 (.agg #[.int .i64 a,.int .i64 b,.int .i64 (M 0),.int .i64 (M 1),.int .i64 (M 2),.int .i64 (M 3),.int .i64 (M 4),.int .i64 (M 5),.int .i64 (M 6),.int .i64 (M 7),.int .i64 (M 8),.int .i64 (M 9),.int .i64 (M 10),.int .i64 (M 11),.bool h]) 2).run prog W= .ok (.agg (lM M).toArray) W:=oM
theorem zxV(a b:Int)(M:Nat->Int)(h:Bool)(W:World):(Instr.field 205 (.agg #[.int .i64 a,.int .i64 b,.int .i64 (M 0),.int .i64 (M 1),.int .i64 (M 2),.int .i64 (M 3),.int .i64 (M 4),.int .i64 (M 5),.int .i64 (M 6),.int .i64 (M 7),.int .i64 (M 8),.int .i64 (M 9),.int .i64 (M 10),.int .i64 (M 11),.bool h]) 3).run prog W= .ok (.bool h) W:=oM
theorem zuW(M:Nat->Int)(b:Bool)(W:World):(Instr.build 215 #[(0,.agg (lM M).toArray),(1,.bool b)]).run prog W= .ok (.agg (cBd (M,b)).toArray) W:=oM
theorem zsC(l:List Nd):(zax l).length<=l.length:=by
 unfold zax;have:=znf (l.map Nd.id)
 rwa [length_map]at this
theorem zdy(hl:∀n∈l,Rg n.id/\Rg n.par):Rgs (zax l):=λx hx=>by
 obtain⟨n,hn,e⟩:=mem_map.1 (zbY.1 hx);rw[<-e];exact (hl n hn).1
theorem zzo(hl:∀n∈l,Rg n.id/\Rg n.par)(x:Int):Rg (wnt (zas l) x):=by
 unfold wnt
 cases q:zas l x with
 | none=>exact⟨by show _<=(if (0:Int)< -1 then (-1:Int) else 0);simp,by show (if (0:Int)< -1 then (-1:Int) else 0)<=_;simp⟩
 | some n=>
  have:=(hl n (zsx q).2).2;show Rg (if n.par< -1 then -1 else n.par)
  unfold Rg at this ⊢
  split <;> omega
section
variable {w:World} {p:Wp} {D:FD}
theorem zsD(hD:DOk D)(hL:LIf D p)(h:LW w p){a:Option Addr}{n cap:Nat}{l:List Nd}(row:zyB w a n l)(hl:∀m∈l,Rg m.id/\Rg m.par)(Dq:D.L.length<=300)(Jt:n<=300):
  Calls prog 70 #[.pointer (some ⟨p.g,0,none⟩),.slice a n cap] w λe w'=>e= .returned (.int .i64 (zct D l))/\∃q,q.g=p.g/\ChL w w' p q/\LIf (zcz D l) q:=by
 have Hy:=row.2.1;have X3:= @run_makeMap prog;have Y3:=row.1;have Kb:=kA row.1;have hJ:Hid (∀u,Bw w u->zyB u a n l):=kA (λu q=>row.keep q);have dM:Hid (∀u,Bw w u->Calls prog 122 #[.slice a n cap] u λe w'=>e= .returned (.bool (!l.any zhA))/\Bw u w'):=kA (λu q=>zms a n cap l u (row.keep q))
 have KI:Hid (∀u,Bw w u->l.any zhA=true->zct D l=1/\∃q,q.g=p.g/\ChL w u p q/\LIf (zcz D l) q):=kA (λu q hb=>by
  have h1:zct D l=1:=by unfold zct;rw[if_pos hb]
  refine⟨h1,p,rfl,ChL.still h q,?_⟩;unfold zcz;rw[if_neg (by rw[h1];omega)]
  exact hL)
 have kV:Hid (∀u gl j nd,Bw w u->MF nK u gl (zas (l.take j))->w.heap.size<=gl->l[j]? =some nd->∃w2,(Instr.mapUpdate 204 (.map (some gl)) (.int .i64 nd.id) (.agg (cNd nd).toArray)).run prog u= .ok () w2/\MF nK w2 gl (zas (l.take (j+1)))/\Bw w w2):=kA (λu gl j nd hb hm hg hj=>by
  obtain⟨w2,r2,m2,g2⟩:=hm.put (hl nd (mem_of_getElem? hj)).1 nd (l.map Nd.id) (λy hy=>by
   unfold upm at hy
   by_cases c:y=nd.id
   ·rw[c];exact mem_map.2 ⟨nd,mem_of_getElem? hj,rfl⟩
   ·rw[if_neg c,zgg]at hy;obtain⟨m,hm,e⟩:=mem_map.1 hy
    exact mem_map.2 ⟨m,mem_of_mem_take hm,e⟩) (by rw[length_map];omega)
  refine⟨w2,r2,by rw[zsw hj];exact m2,⟨g2.os.trans hb.os,g2.tape.trans hb.tape,g2.output.trans hb.output,Nat.le_trans hb.size g2.size,λq hq=>(g2.block q (Nat.lt_of_lt_of_le hq hb.size) (λe=>by injection e with e;omega)).trans (hb.block q hq)⟩⟩)
 have yI:Hid (∀u gl,MF nK u gl (zas l)->Calls prog 123 #[.func (.func 190) #[] #[.pointer (some ⟨u.heap.size,0,none⟩)]] (u.alloc (.cells #[.map (some gl)] 204)) λe w'=>∃v,e= .returned v/\OwnD w' u.heap.size v (zax l).length (zax l)/\Bw u w'):=kA (λu gl hm=>zuN hm (zax l) (zfr _) (λz=>⟨λq=>⟨zdy hl z q,mem_keys.1 q⟩,λq=>mem_keys.2 q.2⟩));have yy:Hid (∀u gl ka nk kc,Bw w u->MF nK u gl (zas l)->Row u ka nk (zax l)->nk<=1000->Calls prog 125 #[.pointer (some ⟨p.g,0,none⟩),.slice ka nk kc,.map (some gl)] u λe w'=>∃v1 v2,e= .returned (.tuple #[v1,v2])/\zkY w' u.heap.size v1 (toL p.T (zas l) (zax l))/\zkY w' u.heap.size v2 (zbz p.T (zas l) (zax l))/\Bw u w'):=kA (λu gl ka nk kc q hm hr hk=>zmu (h.keep q) hm hr hk (zdy hl));have zH:=hL.len;have qs:(zax l).length<=300:=by have:=zsC l;omega
 have C3:Hid (∀u base v1 v2,Bw w u->w.heap.size<=base->zkY u base v1 (toL p.T (zas l) (zax l))->zkY u base v2 (zbz p.T (zas l) (zax l))->l.any zhA=false->Calls prog 126 #[.pointer (some ⟨p.g,0,none⟩),v1,v2] u λe w'=>e= .returned (.int .i64 (zct D l))/\∃Ff,ChL u w' p (wT p (zkX p.T (toL p.T (zas l) (zax l)) (zbz p.T (zas l) (zax l))) Ff)):=kA (λu base v1 v2 q H9 o1 o2 hb=>by
  obtain⟨a1,c1,e1,_,_,r1⟩:=o1.row zjl;obtain⟨a2,c2,e2,_,_,r2⟩:=o2.row zjl;have xn:=hL.moves hD hb;have sV:∀ad,a1=some ad->(toL p.T (zas l) (zax l)).length=0∨(base<=ad.block/\ad.block<u.heap.size):=λad e=>by
   by_cases z:(toL p.T (zas l) (zax l)).length=0
   ·exact .inl z
   ·exact .inr (o1.lt ad.block (by rw[e1,e];rfl))
  have Da:∀ad,a2=some ad->(zbz p.T (zas l) (zax l)).length=0∨(base<=ad.block/\ad.block<u.heap.size):=λad e=>by
   by_cases z:(zbz p.T (zas l) (zax l)).length=0
   ·exact .inl z
   ·exact .inr (o2.lt ad.block (by rw[e2,e];rfl))
  have CJ:(toL p.T (zas l) (zax l)).length<=(zax l).length:=length_filterMap_le _ _;have Zj:(zbz p.T (zas l) (zax l)).length<=(zax l).length:=length_filterMap_le _ _;rw[e1,e2]
  have hc:=zpc (cap:=c1) (cap':=c2) (h.keep q) hL.wf r1 (by
   by_cases z:(toL p.T (zas l) (zax l)).length=0
   ·exact .inl z
   ·refine .inr (λad e hf=> ?_);have k1:=h.inb _ hf;rcases sV ad e with k | k
    ·exact z k
    ·omega) (λlk dd=>by
   obtain⟨k1,_,k3⟩:=zsy.1.1 dd;exact⟨zdy hl _ k1,by rw[k3];exact zzo hl _⟩) r2 (by
   by_cases z:(zbz p.T (zas l) (zax l)).length=0
   ·exact .inl z
   ·refine .inr (λad e hf=> ?_);have k1:=h.inb _ hf;rcases Da ad e with k | k
    ·exact z k
    ·omega) (λlk dd=>by
   obtain⟨k1,_,k3⟩:=zsy.2.1 dd
   exact⟨zdy hl _ k1,by rw[k3];exact hL.parMR hD _⟩) (λad e=>(Da ad e).imp_right And.right) om
  refine hc.mono ?_;rintro e w' ⟨rfl,Hg⟩
  exact⟨by rw[xn.1],Hg⟩)
 have Hm:Hid (∀u5 u Ff,Bw w u5->l.any zhA=false->zct D l≠0->ChL u5 u p (wT p (zkX p.T (toL p.T (zas l) (zax l)) (zbz p.T (zas l) (zax l))) Ff)->∃q,q.g=p.g/\ChL w u p q/\LIf (zcz D l) q):=kA (λu5 u Ff q hb h0 Hg=>by
  have xn:=hL.moves hD hb;refine⟨wT p (zkX p.T (toL p.T (zas l) (zax l)) (zbz p.T (zas l) (zax l))) Ff,rfl,(ChL.still h q).join Hg,?_⟩;unfold zcz;rw[if_neg h0]
  exact hL.putNo xn.2.1 (xn.2.2.2 h0))
 have Cq:Hid (∀u5 u T Ff j z,ChL u5 u p (wN (wT p T Ff) (zdD p.N (zas l) ((zax l).take j)))->(zax l)[j]? =some z->∃w2,(Instr.mapUpdate 197 (.map (some p.gn)) (.int .i64 z) (.agg (cBd (((zas l z).getD zNd).pl,((zas l z).getD zNd).hid)).toArray)).run prog u= .ok () w2/\ChL u5 w2 p (wN (wT p T Ff) (zdD p.N (zas l) ((zax l).take (j+1))))):=kA (λu5 u T Ff j z k hz=>by
  obtain⟨w2,r2,m2,g2⟩:=k.1.nod.put (zdy hl z (mem_of_getElem? hz)) (((zas l z).getD zNd).pl,((zas l z).getD zNd).hid) (D.L.map Nd.id++zax l) (λy hy=>by
   unfold upm at hy
   by_cases c:y=z
   ·rw[c];exact mem_append_right _ (mem_of_getElem? hz)
   ·rw[if_neg c]at hy;have Dv:(zdD p.N (zas l) ((zax l).take j) y).isSome=true:=hy;unfold zdD at Dv
    by_cases d:y∈(zax l).take j
    ·exact mem_append_right _ (mem_of_mem_take d)
    ·rw[if_neg d,hL.nodS]at Dv
     exact mem_append_left _ (ziW.1 Dv)) (by rw[length_append,length_map];omega)
  refine⟨w2,r2,?_⟩;rw[zpd hz]
  exact k.join (k.1.setN m2 g2))
 have yJ:Hid (∀u5 u Ff ka nk kc,Bw w u5->l.any zhA=false->zct D l=0->ChL u5 u p (wN (wT p (zkX p.T (toL p.T (zas l) (zax l)) (zbz p.T (zas l) (zax l))) Ff) (zdD p.N (zas l) (zax l)))->Row u5 ka nk (zax l)->(∀ad,ka=some ad->nk=0∨w.heap.size<=ad.block)->Calls prog 120 #[.pointer (some ⟨p.g,0,none⟩),.slice ka nk kc] u λe w'=>e= .returned (.tuple #[])/\∃q,q.g=p.g/\ChL w w' p q/\LIf (zcz D l) q):=kA (λu5 u Ff ka nk kc q hb h0 k hr nC=>by
  have xn:=hL.moves hD hb;have JD:nk=(zax l).length:=hr.1.symm;have Kt:Aw (zba p) ka nk:=by
   by_cases z:nk=0
   ·exact .inl z
   ·refine .inr (λad e hf=> ?_);have:=h.inb _ hf;rcases nC ad e with c | c
    ·exact z c
    ·omega
  have sW:∀ad,ka=some ad->nk=0∨ad.block<u5.heap.size:=λad e=>by
   rcases hr.2.2 with c | ⟨b,off,e2,hc⟩
   ·exact .inl c
   ·by_cases z:nk=0
    ·exact .inl z
    ·rw[e]at e2;injection e2 with e2;rw[e2];exact .inr (World.block_lt_of_cell? _ _ (hc 0 om))
  have DU:=zbI hr Kt k.2.1
  refine (zfC (cap:=kc) k.1 om DU (by
   by_cases z:nk=0
   ·exact .inl z
   ·refine .inr (λad e hf=> ?_);rcases k.2.2 _ hf with c | c
    ·rcases Kt with d | d
     ·exact z d
     ·exact d ad e c
    ·rcases sW ad e with d | d
     ·exact z d
     ·omega) (zdy hl) (D.L.map Nd.id) (λy hy=>by
   have Dv:(p.M y).isSome=true:=hy;rw[hL.mrk]at Dv
   exact ziW.1 Dv.1) (by rw[length_map];omega)).mono ?_
  rintro e w' ⟨rfl,Hg⟩;refine⟨rfl,mkP (wN (wT p (zkX p.T (toL p.T (zas l) (zax l)) (zbz p.T (zas l) (zax l))) Ff) (zdD p.N (zas l) (zax l))) (zax l),rfl,((ChL.still h q).join k).join Hg,?_⟩
  exact hL.put hD h0 xn.2.1 (xn.2.2.1 h0))
 have D9:Hid (∀b,zba p b->b<w.heap.size):=kA h.inb
 have JE:Hid (∀T Ff,wN (wT p T Ff) (zdD p.N (zas l) ((zax l).take 0))=wT p T Ff):=kA (λT Ff=>by
  unfold wN
  rw[take_zero,show zdD p.N (zas l) []=(wT p T Ff).N from by funext x;unfold zdD;rw[if_neg (by simp)];rfl])
 have DV:Hid (∀u u5 T Ff N',ChL u5 u p (wN (wT p T Ff) N')->u.cell? ⟨p.g,1,none⟩=some (.map (some p.gn))/\p.g<u.heap.size):=kA (λu u5 T Ff N' k=>⟨k.1.cells.2.1,k.1.cells.2.2.2.2.2⟩);obtain⟨K,hK⟩:∃K,K=zax l:=⟨_,rfl⟩;obtain⟨m,hm⟩:∃m,m=zas l:=⟨_,rfl⟩;obtain⟨E,hE⟩:∃E,E=zct D l:=⟨_,rfl⟩;obtain⟨bad,Xd⟩:∃bad,bad=l.any zhA:=⟨_,rfl⟩;rw[<-hK]at yI yy C3 Hm Cq yJ JE qs;rw[<-hm]at yI yy C3 Hm Cq yJ JE;rw[<-hE]at KI C3 Hm yJ ⊢;rw[<-Xd]at dM KI C3 Hm yJ;have Zv:Hid (Rgs K):=kA (by rw[hK];exact zdy hl);have zA:=kA hm;obtain⟨MT,Tg⟩:∃MT,MT=zkX p.T (toL p.T m K) (zbz p.T m K):=⟨_,rfl⟩;rw[<-Tg]at C3 Hm yJ;obtain⟨g,hge⟩:∃g,g=p.g:=⟨_,rfl⟩;obtain⟨gn,Ho⟩:∃gn,gn=p.gn:=⟨_,rfl⟩;rw[<-hge]at yy C3 yJ DV KI Hm ⊢;rw[<-Ho]at Cq DV;clear h row hL hD Dq hl zH hK hm hE Xd Tg hge Ho Y3;go_enter func70,ntmps70;go_wp2_with fail;refine (dM w (Below.refl _ _)).mono ?_;rintro e w1 ⟨rfl,b1⟩;have Hk:=kA b1;clear b1 dM
 cases bad with
 | true=>
  obtain⟨h1,h2⟩:=KI.out w1 Hk rfl;have Kz:=kA h1;have HQ:=kA h2;clear KI h1 h2;go_wp2;go_ret;exact⟨by rw[Kz.out] <;> rfl,HQ⟩
 | false=>
  have Hf:Bw w1 (w1.alloc (.map #[] 0)):=zaa _ _;have DC:Hid (MF nK (w1.alloc (.map #[] 0)) w1.heap.size (zas (l.take 0))/\Bw w (w1.alloc (.map #[] 0))/\w.heap.size<=w1.heap.size/\w1.heap.size<(w1.alloc (.map #[] 0)).heap.size):=kA ⟨by rw[take_zero];exact MF.new nK w1,zad Hk Hf,Hk.size,by simp⟩;clear KI Hf Hk;go_upto_region 4 with fail;refine fin (λW=>MF nK W w1.heap.size (zas (l.take 0))/\Bw w W/\w.heap.size<=w1.heap.size/\w1.heap.size<W.heap.size) DC ?_;obtain⟨gl,cj⟩:∃gl,gl=w1.heap.size:=⟨_,rfl⟩;rw[<-cj];rintro W ⟨zR,Hq,nD,yj⟩;have HM:=kA zR;have HB:=kA Hq;clear DC cj zR Hq yj;go_wp2
  go_loopw [7,24] (λ_ i wr=>∃j:Nat,j<=n/\i= .int .i64 j/\MF nK wr gl (zas (l.take j))/\Bw w wr) (λ_ i _=>n - (ivl i).toNat)
  case atStart=>exact⟨0,om,rfl,HM.out,HB⟩
  case round=>
   clear HM HB;obtain⟨j,hj,rfl,Xg,hb⟩:=hrel;have HM:=kA Xg;have HB:=kA hb;have kO:=hJ.out wr hb;clear Xg hb
   by_cases hlt:j<n
   ·obtain⟨b,off,nd,rfl,Ht,hx,hr⟩:=kO.at_ hlt;have Dj:=kA hr;have XJ:=kA (zvL nd);have Hf:Bw wr (wr.alloc (.cells (cNd zNd).toArray 205)):=zaa _ _;have H9:Bw wr ((wr.alloc (.cells (cNd zNd).toArray 205)).setCells wr.heap.size 0 (cNd nd)):=zab (cNd nd) Hf (Nat.le_refl _);have ki:Hid ((wr.alloc (.cells (cNd zNd).toArray 205)).there wr.heap.size 0 (cNd nd).toArray.size):=kA (zae (Blk.new wr _ _) (by rw[size_toArray];exact Nat.le_refl 15));have HK:Hid (Blk ((wr.alloc (.cells (cNd zNd).toArray 205)).setCells wr.heap.size 0 (cNd nd)) wr.heap.size 205 (cNd nd).toArray/\Bw wr ((wr.alloc (.cells (cNd zNd).toArray 205)).setCells wr.heap.size 0 (cNd nd))):=kA ⟨zal (Blk.new wr _ _) rfl,H9⟩;have ZE:Hid (∀W gg,Blk W gg 205 (cNd nd).toArray->W.cell? ⟨gg,0,none⟩=some (.int .i64 nd.id)):=kA (λW gg k=>k.cell 0);have CZ:=kA (λu=>kV.out u gl j nd);obtain⟨XM,Yg⟩:∃XM,XM=cNd nd:=⟨_,rfl⟩;obtain⟨y,hy⟩:∃y,y=nd.id:=⟨_,rfl⟩;rw[<-Yg]at Dj XJ ki HK ZE CZ;rw[<-hy]at ZE CZ;have HX:=kA hx;have j0:(0:Int)<=(j:Int):=om;have j1:(j:Int)<(n:Int):=om;clear kO hr hx Yg hy Hf H9;go_upto_region 7 with (first | refine wpList_load_mid rfl 205 (.tmp 26) rfl b (off+j*15) rfl XM _ Dj underlying205 rfl XJ.size ?_ | refine wpList_store_mid rfl 205 (.tmp 7) (.tmp 27) rfl wr.heap.size 0 XM.toArray rfl rfl ki XJ.sizea XJ.onea ?_)
    refine fin (λW=>Blk W wr.heap.size 205 XM.toArray/\Bw wr W) HK ?_;clear HK ki Dj Ht;obtain⟨g7,Ck⟩:∃g7,g7=wr.heap.size:=⟨_,rfl⟩;rw[<-Ck];rintro W2 ⟨k7,C2⟩;have c7:=ZE.out W2 g7 k7;have Q9:Hid (W2.rangeAt g7 0 XM):=kA (zac k7);have z7:=k7.lt
    try rw[Ck]at C2
    obtain⟨w3,r3,m3,b3⟩:=CZ.out W2 (zad HB C2) (HM.keep C2) nD HX;have nE:=kA m3;have Ky:=kA b3;clear CZ C2 k7 m3 b3 Ck HM HB;go_wp2_with (refine wpList_load_mid rfl 205 (.tmp 7) rfl g7 0 rfl XM _ Q9 underlying205 rfl XJ.size ?_);go_roundw
    case rel=>exact⟨j+1,om,by go_num,nE.out,Ky⟩
    case measure=>simp[ivl] <;> omega
   ·obtain rfl:j=n:=om;have e0:l.take j=l:=take_of_length_le (by rw[Kb.out];exact Nat.le_refl _);rw[e0,<-zA.out]at HM;have j1:¬(j:Int)<(j:Int):=om;have jj:=kA (zzg (some gl) wr);have dx:=kA (yI wr gl HM);clear e0 kO hlt kV yI hJ Kb;go_wp2_with fail;refine jj.mono ?_;rintro e w2 ⟨rfl,rfl⟩;go_wp2_with fail;refine dx.mono ?_;rintro e w3 ⟨v,rfl,Hc,b3⟩;obtain⟨ka,kc,Ti,jk⟩:=Hc.row;have zJ:∀ad,ka=some ad->K.length=0∨w.heap.size<=ad.block:=λad e=>by
     by_cases z:K.length=0
     ·exact .inl z
     ·have k1:=(World.ownsRow.lt Hc ad.block (by rw[Ti,e];rfl)).1;have k2:=HB.size;exact .inr om
    subst Ti;obtain⟨nk,JD⟩:∃nk,nk=K.length:=⟨_,rfl⟩;rw[<-JD]at jk zJ qs ⊢;have nG:=kA JD;have jl:=kA zJ;replace HB:=kA (zad HB b3);replace HM:=kA (HM.keep b3);have yK:=kA jk;have Tj:=jk.2.1;have Tk:=kA (yy w3 gl ka nk kc HB HM jk om);clear Hc jk zJ b3 jj dx yy JD;go_wp2_with fail;refine Tk.mono ?_;rintro e w4 ⟨v1,v2,rfl,o1,o2,b4⟩;have Ru:w.heap.size<=w3.heap.size:=HB.size;replace HB:=kA (zad HB b4);replace HM:=kA (HM.keep b4);replace yK:=kA (zar yK b4);have jm:=kA (C3 w4 w3.heap.size v1 v2 HB Ru o1 o2 (by trivial));clear o1 o2 b4 Tk C3;go_wp2_with fail;refine jm.mono ?_;rintro e w5 ⟨rfl,Ff,Hg⟩;have Hw:=kA Hg;clear Hg jm
    by_cases dI:E=0
    ·have Tl:=λu nH Nm nI=>yJ.out w4 u Ff nH Nm nI HB (by trivial) dI;have sX:=kA (λu=>Tl u ka nk kc)
     have dS:Hid (∀u N',ChL w4 u p (wN (wT p MT Ff) N')->MF nK u gl m/\Row u ka nk K):=kA (λu N' k=>by
      refine⟨HM.same (k.2.1.2.2.2.2 gl HM.lt (λc=>by have:=D9.out _ c;omega)),zbI yK ?_ k.2.1⟩
      by_cases z:nk=0
      ·exact .inl z
      ·refine .inr (λad e hf=> ?_);have k1:=D9.out _ hf;rcases jl.out ad e with c | c
       ·exact z c
       ·omega)
     have ZE:Hid (ChL w4 w5 p (wN (wT p MT Ff) (zdD p.N m (K.take 0)))):=kA (by rw[JE.out];exact Hw);subst dI;clear Tl yJ Hm Hw JE;go_wp2
     go_loopw [13,52] (λ_ i wx=>∃k:Nat,k<=nk/\i= .int .i64 k/\ChL w4 wx p (wN (wT p MT Ff) (zdD p.N m (K.take k)))) (λ_ i _=>nk - (ivl i).toNat)
     case atStart=>exact⟨0,om,rfl,ZE⟩
     case round=>
      clear ZE;obtain⟨k,hk,rfl,Hg⟩:=hrel;obtain⟨sY,kO⟩:=dS.out wr _ Hg;obtain⟨c1,hg⟩:=DV.out wr _ _ _ _ Hg;have Hw:=kA Hg;clear Hg
      by_cases hlt:k<nk
      ·obtain⟨b,off,z,rfl,hz,cz⟩:=zch kO hlt;have Ht:=World.block_lt_of_cell? _ _ cz;have Ki:=Zv.out z (mem_of_getElem? hz);have jo:ChL w4 wr.drew p (wN (wT p MT Ff) (zdD p.N m (K.take k))):=Hw.behind (zaw wr);obtain⟨w6,r6,yL⟩:=Cq.out w4 wr.drew MT Ff k z jo hz;have QB:=(dS w6 _ yL).1.get Ki;obtain⟨TU,_⟩:=DV.out w6 _ _ _ _ yL;have nJ:=kA yL;obtain⟨nd,XE⟩:∃nd,nd=(m z).getD zNd:=⟨_,rfl⟩;have Tm:(Instr.lookup 204 (.map (some gl)) (.int .i64 z) false).run prog wr.drew= .ok (.agg #[.int .i64 nd.id,.int .i64 nd.par,.int .i64 (nd.pl 0),.int .i64 (nd.pl 1),.int .i64 (nd.pl 2),.int .i64 (nd.pl 3),.int .i64 (nd.pl 4),.int .i64 (nd.pl 5),.int .i64 (nd.pl 6),.int .i64 (nd.pl 7),.int .i64 (nd.pl 8),.int .i64 (nd.pl 9),.int .i64 (nd.pl 10),.int .i64 (nd.pl 11),.bool nd.hid]) wr.drew:=by rw[XE];exact (sY.keep (zaw wr)).get Ki
       have yG:(Instr.lookup 204 (.map (some gl)) (.int .i64 z) false).run prog w6= .ok (.agg #[.int .i64 nd.id,.int .i64 nd.par,.int .i64 (nd.pl 0),.int .i64 (nd.pl 1),.int .i64 (nd.pl 2),.int .i64 (nd.pl 3),.int .i64 (nd.pl 4),.int .i64 (nd.pl 5),.int .i64 (nd.pl 6),.int .i64 (nd.pl 7),.int .i64 (nd.pl 8),.int .i64 (nd.pl 9),.int .i64 (nd.pl 10),.int .i64 (nd.pl 11),.bool nd.hid]) w6:=by rw[XE];exact QB
       rw[<-XE]at r6;have SA:=kA (And.intro c1 Tm);have SE:=kA (And.intro TU yG);have ZD:Hid (∀W,(Instr.build 215 #[(0,.agg (lM nd.pl).toArray),(1,.bool nd.hid)]).run prog W= .ok (.agg (cBd (nd.pl,nd.hid)).toArray) W):=kA (zuW nd.pl nd.hid);obtain⟨XB,Yh⟩:∃XB,XB=cBd (nd.pl,nd.hid):=⟨_,rfl⟩;rw[<-Yh]at r6 ZD;have sZ:=ZD.out;have k0:(0:Int)<=(k:Int):=om;have k1:(k:Int)<(nk:Int):=om;clear kO sY hz Ki jo yL QB TU XE Tm yG Yh Hw c1 ZD;go_wp2;refine wp_region_held_drew (S:=λw'=>w'.cell? ⟨g,1,none⟩=some (.map (some gn))/\(Instr.lookup 204 (.map (some gl)) (.int .i64 z) false).run prog w'= .ok (.agg #[.int .i64 nd.id,.int .i64 nd.par,.int .i64 (nd.pl 0),.int .i64 (nd.pl 1),.int .i64 (nd.pl 2),.int .i64 (nd.pl 3),.int .i64 (nd.pl 4),.int .i64 (nd.pl 5),.int .i64 (nd.pl 6),.int .i64 (nd.pl 7),.int .i64 (nd.pl 8),.int .i64 (nd.pl 9),.int .i64 (nd.pl 10),.int .i64 (nd.pl 11),.bool nd.hid]) w') oM (SA.out) (λhHeld=> ?_);refine tk 0 hHeld ?_;refine tk 1 hHeld ?_;refine tk 2 hHeld ?_;refine tk 3 hHeld ?_;refine tk 4 hHeld ?_;refine tk 5 hHeld ?_;refine tk 6 hHeld ?_;refine tk 7 hHeld ?_;refine wpAnyH_take (i:=8) (v:=(.agg (lM nd.pl).toArray)) rfl oM oM oM (λ_ _ _ h=>h) (zc2 (by rfl) 205 _ 2 rfl (.agg #[.int .i64 nd.id,.int .i64 nd.par,.int .i64 (nd.pl 0),.int .i64 (nd.pl 1),.int .i64 (nd.pl 2),.int .i64 (nd.pl 3),.int .i64 (nd.pl 4),.int .i64 (nd.pl 5),.int .i64 (nd.pl 6),.int .i64 (nd.pl 7),.int .i64 (nd.pl 8),.int .i64 (nd.pl 9),.int .i64 (nd.pl 10),.int .i64 (nd.pl 11),.bool nd.hid]) _ rfl (zsB _ _ _ _)) hHeld ?_;simp only[Act.put,getElem_toArray,getElem_cons_zero,getElem_cons_succ,setIfInBounds_toArray,set_cons_zero,set_cons_succ];refine tk 9 hHeld ?_;refine tk 10 hHeld ?_;refine tk 11 hHeld ?_;refine wpAnyH_take (i:=12) (v:=(.bool nd.hid)) rfl oM oM oM (λ_ _ _ h=>h) (zc2 (by rfl) 205 _ 3 rfl (.agg #[.int .i64 nd.id,.int .i64 nd.par,.int .i64 (nd.pl 0),.int .i64 (nd.pl 1),.int .i64 (nd.pl 2),.int .i64 (nd.pl 3),.int .i64 (nd.pl 4),.int .i64 (nd.pl 5),.int .i64 (nd.pl 6),.int .i64 (nd.pl 7),.int .i64 (nd.pl 8),.int .i64 (nd.pl 9),.int .i64 (nd.pl 10),.int .i64 (nd.pl 11),.bool nd.hid]) _ rfl (zxV _ _ _ _)) hHeld ?_;simp only[Act.put,getElem_toArray,getElem_cons_zero,getElem_cons_succ,setIfInBounds_toArray,set_cons_zero,set_cons_succ];refine wpAnyH_take (i:=13) (v:=(.agg XB.toArray)) rfl oM oM oM (λ_ _ _ h=>h) (zbx (by rfl) 215 _ _ rfl (.agg (lM nd.pl).toArray) (.bool nd.hid) (.agg XB.toArray) rfl rfl sZ) hHeld ?_;simp only[Act.put,getElem_toArray,getElem_cons_zero,getElem_cons_succ,setIfInBounds_toArray,set_cons_zero,set_cons_succ];refine rd 14 (λK hK=> ?_);go_simp;refine hK.out _ _ SE (λhHeld=> ?_);clear hK;refine wpAnyH_done oM ?_ _;go_wp2;go_roundw
       case rel=>exact⟨k+1,om,by go_num,nJ⟩
       case measure=>simp[ivl] <;> omega
      ·obtain rfl:k=nk:=om;have e0:K.take k=K:=take_of_length_le (by rw[nG.out];exact Nat.le_refl _);rw[e0]at Hw;have Tn:=kA (sX wr Hw yK jl);have k1:¬(k:Int)<(k:Int):=om;clear e0 kO sY hlt;go_wp2_with fail;refine Tn.mono ?_;rintro e w7 ⟨rfl,hq⟩;have HQ:=kA hq;clear hq Tn;go_wp2;go_ret;exact⟨rfl,HQ⟩
    ·have HQ:=kA (Hm w4 w5 Ff HB (by trivial) dI Hw);clear Hw Hm yJ;go_wp2;go_ret;exact⟨rfl,HQ⟩
end
end Go.Proofs.YtlibdcmcbinfnaaGreat
