/- Lemmas. -/
import Derived.Test.YtlibdcmcbinfnaaGreatMS05
set_option maxHeartbeats 100000000
set_option maxRecDepth 1000000
namespace Go.Proofs.YtlibdcmcbinfnaaGreat
open _root_.Go.Proofs.Tryz List Nat
open Go.RowKit
variable{x y k t s:Int}{e B:Nat->Int}{P Q:PT}{cap g:Nat}{w:World}{b:Bool}{ks:List Int}
theorem zmO(h:zk1 x≠0):zk1 x=6:=by
 unfold zk1 at h ⊢
 by_cases c:okB x=true
 ·rw[if_pos c]at h;exact absurd rfl h
 ·rw[if_neg c]
theorem zwg(x:Int):okB (zk0 x)=true:=by
 unfold zk0
 by_cases c:okB x=true
 ·rw[if_pos c];exact c
 ·rw[if_neg c];decide
theorem zmP(hx:okB x=true)(hy:okB y=true)(h:zea x y≠0):zea x y=6:=by
 have ho:(okB x && okB y)=true:=by rw[hx,hy];rfl
 rw[(zpx ho).2]at h ⊢;exact zmO h
theorem zp6(x y:Int):okB (zkW x y)=true:=by
 by_cases ho:(okB x && okB y)=true
 ·rw[(zpx ho).1];exact zwg _
 ·rw[(zx6 (by simpa using ho)).1];decide
theorem zjL(h:zc5 (e 0) (e 1) (e 2)≠0):∃k,k<3/\e k≠0/\zc5 (e 0) (e 1) (e 2)=e k:=by
 unfold zc5 at h ⊢
 by_cases h0:e 0=0
 ·rw[if_pos h0]at h ⊢
  by_cases h1:e 1=0
  ·rw[if_pos h1]at h ⊢;exact⟨2,om,h,rfl⟩
  ·rw[if_neg h1];exact⟨1,om,h1,rfl⟩
 ·rw[if_neg h0];exact⟨0,om,h0,rfl⟩
theorem zgB(h:zc5 (e 0) (e 1) (e 2)=0):∀k,k<3->e k=0:=by
 unfold zc5 at h
 by_cases h0:e 0=0
 ·rw[if_pos h0]at h
  by_cases h1:e 1=0
  ·rw[if_pos h1]at h;intro k hk;obtain rfl | rfl | rfl:k=0∨k=1∨k=2:=om
   ·exact h0
   ·exact h1
   ·exact h
  ·rw[if_neg h1]at h;exact absurd h h1
 ·rw[if_neg h0]at h;exact absurd h h0
theorem zfk{P:Nat->Int}(h:zef P=true){k:Nat}(hk:k<4):okB (P k)=true:=by
 unfold zef zaK at h;have h4:okB (P 0)=true/\okB (P 1)=true/\okB (P 2)=true/\okB (P 3)=true:=by simpa using h
 obtain rfl | rfl | rfl | rfl:k=0∨k=1∨k=2∨k=3:=om
 ·exact h4.1
 ·exact h4.2.1
 ·exact h4.2.2.1
 ·exact h4.2.2.2
def upB(B:Nat->Int)(j:Nat):Int:=B (3+j)
theorem zyj{P:Nat->Int}(h:zef P=true)(h':zcm B=true)(he:prE P B≠0):prE P B=6/\enE P B t=6:=by
 obtain⟨k,hk,hn,hq⟩:=zjL (e:=zpi P B) he;refine⟨hq.trans (zmP (zfk h om) (zmD h' om) hn),zpI (k:=k) ?_ hk⟩;unfold zgn;have:(zea (P k) (B k) != 0)=true:=by simpa using (show zea (P k) (B k)≠0 from hn)
 rw[this];rfl
theorem zyk{P:Nat->Int}(h:zef P=true)(h':zcm B=true)(he:prE P (upB B)≠0):prE P (upB B)=6/\enE P B t=6:=by
 obtain⟨k,hk,hn,hq⟩:=zjL (e:=zpi P (upB B)) he;refine⟨hq.trans (zmP (zfk h (by omega)) (zmD h' (by omega)) hn),zpI (k:=k) ?_ hk⟩;unfold zgn;have:(zea (P k) (B (3+k)) != 0)=true:=by simpa using (show zea (P k) (B (3+k))≠0 from hn)
 rw[this,Bool.or_true]
theorem zf5(a b:Int):bet zc7 a b=min a b:=by
 unfold bet zc7
 by_cases c:b<a
 ·rw[if_pos (by simpa using c)];omega
 ·rw[if_neg (by simpa using c)];omega
theorem ziq(a b:Int):bet zil a b=max a b:=by
 unfold bet zil
 by_cases c:b>a
 ·rw[if_pos (by simpa using c)];omega
 ·rw[if_neg (by simpa using c)];omega
theorem zmQ(x y z t:Int):zik [x,y,z,t]=zik [t,x,y,z]/\zfh [x,y,z,t]=zfh [t,x,y,z]:=by
 have hs:[x,y,z,t].sum=[t,x,y,z].sum:=by simp only[sum_cons,sum_nil];omega
 have hr:zdE [x,y,z,t]=zdE [t,x,y,z]:=by
  unfold zdE zaK;simp only[all_cons,all_nil,length_cons,length_nil]
  cases okB x <;> cases okB y <;> cases okB z <;> cases okB t <;> rfl
 unfold zik zfh;rw[hs,hr];exact⟨rfl,rfl⟩
theorem zp7{z:Int}(hx:okB x=true)(hy:okB y=true)(hz:okB z=true)(ht:okB t=true)(h:zfh [x,y,z,t]≠0):zfh [x,y,z,t]=6:=by
 have ho:zdE [x,y,z,t]=true:=zgl rfl (by simp) (by unfold zaK;simp[hx,hy,hz,ht]);rw[zmy ho]at h ⊢;exact zmO h
theorem zlk(hx:okB x=true)(hy:okB y=true):okB (min x y)=true:=by
 obtain⟨a1,a2⟩:=zfg.1 hx;obtain⟨b1,b2⟩:=zfg.1 hy;exact zkZ om om
theorem zll(hx:okB x=true)(hy:okB y=true):okB (max x y)=true:=by
 obtain⟨a1,a2⟩:=zfg.1 hx;obtain⟨b1,b2⟩:=zfg.1 hy;exact zkZ om om
theorem zwh{P:Nat->Int}(ht:okB t=true)(h1:prE P B=0)(h2:prE P (upB B)=0):
  ∃l0 l1 l2 g0 g1 g2,pk zc7 [(prV P B 0,prV P B 1,prV P B 2),(prV P (upB B) 0,prV P (upB B) 1,prV P (upB B) 2)]=(l0,l1,l2)/\pk zil [(prV P B 0,prV P B 1,prV P B 2),(prV P (upB B) 0,prV P (upB B) 1,prV P (upB B) 2)]=(g0,g1,g2)/\
   (zfh [l0,l1,l2,t]≠0->zfh [l0,l1,l2,t]=6/\enE P B t=6)/\(zfh [g0,g1,g2,t]≠0->zfh [g0,g1,g2,t]=6/\enE P B t=6)/\
   (zfh [l0,l1,l2,t]=0->zfh [g0,g1,g2,t]=0->enE P B t=0/\zvW P B t=zik [l0,l1,l2,t]/\zvX P B t=zik [g0,g1,g2,t]):=by
 have hb:zgn P B 0=false/\zgn P B 1=false/\zgn P B 2=false:=by
  have a:=zgB (e:=zpi P B) h1;have b:=zgB (e:=zpi P (upB B)) h2;have c:∀k,k<3->zgn P B k=false:=λk hk=>by
   unfold zgn;rw[show zea (P k) (B k)=0 from a k hk,show zea (P k) (B (3+k))=0 from b k hk];rfl
  exact⟨c 0 om,c 1 om,c 2 om⟩
 have v1:∀k,prV P B k=enX P B k:=λk=>by unfold prV;rw[h1];rfl
 have v2:∀k,prV P (upB B) k=enY P B k:=λk=>by unfold prV;rw[h2];rfl
 have el:zpG P B t=[t,min (enX P B 0) (enY P B 0),min (enX P B 1) (enY P B 1),min (enX P B 2) (enY P B 2)]:=rfl;have eh:zpH P B t=[t,max (enX P B 0) (enY P B 0),max (enX P B 1) (enY P B 1),max (enX P B 2) (enY P B 2)]:=rfl;have ee:enE P B t=if (zfh (zpG P B t) != 0) || (zfh (zpH P B t) != 0) then 6 else 0:=by unfold enE;rw[hb.1,hb.2.1,hb.2.2];rfl
 have kx:∀k,okB (enX P B k)=true:=λk=>zp6 _ _;have ky:∀k,okB (enY P B k)=true:=λk=>zp6 _ _;have tl:=zmQ (min (enX P B 0) (enY P B 0)) (min (enX P B 1) (enY P B 1)) (min (enX P B 2) (enY P B 2)) t;have th:=zmQ (max (enX P B 0) (enY P B 0)) (max (enX P B 1) (enY P B 1)) (max (enX P B 2) (enY P B 2)) t;rw[<-el]at tl;rw[<-eh]at th;refine⟨min (enX P B 0) (enY P B 0),min (enX P B 1) (enY P B 1),min (enX P B 2) (enY P B 2),max (enX P B 0) (enY P B 0),max (enX P B 1) (enY P B 1),max (enX P B 2) (enY P B 2),?_,?_,?_,?_,?_⟩
 ·rw[v1,v1,v1,v2,v2,v2,<-zf5,<-zf5,<-zf5];rfl
 ·rw[v1,v1,v1,v2,v2,v2,<-ziq,<-ziq,<-ziq];rfl
 ·intro h;refine⟨zp7 (zlk (kx 0) (ky 0)) (zlk (kx 1) (ky 1)) (zlk (kx 2) (ky 2)) ht h,?_⟩;rw[tl.2]at h;rw[ee,show (zfh (zpG P B t) != 0)=true by simpa using h];rfl
 ·intro h;refine⟨zp7 (zll (kx 0) (ky 0)) (zll (kx 1) (ky 1)) (zll (kx 2) (ky 2)) ht h,?_⟩;rw[th.2]at h;rw[ee,show (zfh (zpH P B t) != 0)=true by simpa using h,Bool.or_true];rfl
 ·intro a b;have e0:enE P B t=0:=by
   rw[tl.2]at a;rw[th.2]at b;rw[ee,a,b];rfl
  refine⟨e0,?_,?_⟩
  ·unfold zvW;rw[e0,tl.1];rfl
  ·unfold zvX;rw[e0,th.1];rfl
theorem zfl(a:Option Addr)(vs:List V3)(w:World)(p0 p1 p2:Int)(hp:pk zc7 vs=(p0,p1,p2))(row:VRow w a 2 vs):
  Calls prog 278 #[.slice a 2 2] w λe w'=>e= .returned (.agg #[.int .i64 p0,.int .i64 p1,.int .i64 p2])/\Bw w w':=
 (zpF a 2 2 vs w om om row).mono λ_ _ ⟨he,hw⟩=>⟨by rw[he,hp];rfl,hw⟩
theorem zom(a:Option Addr)(vs:List V3)(w:World)(p0 p1 p2:Int)(hp:pk zil vs=(p0,p1,p2))(row:VRow w a 2 vs):
  Calls prog 292 #[.slice a 2 2] w λe w'=>e= .returned (.agg #[.int .i64 p0,.int .i64 p1,.int .i64 p2])/\Bw w w':=
 (zjv a 2 2 vs w om om row).mono λ_ _ ⟨he,hw⟩=>⟨by rw[he,hp];rfl,hw⟩
theorem zs5(P B:Nat->Int)(w:World)(h:zef P=true)(h':zcm B=true):
  Calls prog 263 #[.agg #[.int .i64 (P 0),.int .i64 (P 1),.int .i64 (P 2),.int .i64 (P 3)],.agg #[.int .i64 (B 0),.int .i64 (B 1),.int .i64 (B 2),.int .i64 (B 3),.int .i64 (B 4),.int .i64 (B 5)]] w λe w'=>e= .returned (.tuple #[.int .i64 (zvW P B (P 3)),.int .i64 (zvX P B (P 3)),.int .i64 (enE P B (P 3))])/\Bw w w':=by
 have HO:=kA (And.intro h h');clear h h';obtain⟨a0,a1,a2,y1,Dd⟩:∃a0 a1 a2 y,prV P B 0=a0/\prV P B 1=a1/\prV P B 2=a2/\prE P B=y:=⟨_,_,_,_,rfl,rfl,rfl,rfl⟩;obtain⟨b0,b1,b2,y2,di⟩:∃a0 a1 a2 y,prV P (upB B) 0=a0/\prV P (upB B) 1=a1/\prV P (upB B) 2=a2/\prE P (upB B)=y:=⟨_,_,_,_,rfl,rfl,rfl,rfl⟩;have H1:Hid (∀w',Calls prog 290 #[.agg #[.int .i64 (P 0),.int .i64 (P 1),.int .i64 (P 2)],.agg #[.int .i64 (B 0),.int .i64 (B 1),.int .i64 (B 2)]] w' λe dN=>e= .returned (.tuple #[.agg #[.int .i64 a0,.int .i64 a1,.int .i64 a2],.int .i64 y1])/\Bw w' dN):=
  kA (λw'=>(zfI P B w').mono λ_ _ ⟨he,hw⟩=>⟨by rw[he,Dd.1,Dd.2.1,Dd.2.2.1,Dd.2.2.2],hw⟩)
 have H2:Hid (∀w',Calls prog 290 #[.agg #[.int .i64 (P 0),.int .i64 (P 1),.int .i64 (P 2)],.agg #[.int .i64 (B 3),.int .i64 (B 4),.int .i64 (B 5)]] w' λe dN=>e= .returned (.tuple #[.agg #[.int .i64 b0,.int .i64 b1,.int .i64 b2],.int .i64 y2])/\Bw w' dN):=
  kA (λw'=>(zfI P (upB B) w').mono λ_ _ ⟨he,hw⟩=>⟨by rw[he,di.1,di.2.1,di.2.2.1,di.2.2.2],hw⟩)
 have HC:=kA (And.intro Dd di);clear Dd di
 by_cases YA:y1=0
 ·have T8:(y1 != 0)=false:=by rw[YA];rfl
  by_cases zN:y2=0
  ·have Dv:(y2 != 0)=false:=by rw[zN];rfl
   obtain⟨l0,l1,l2,g0,g1,g2,hl,hg,J0,YB,ZR⟩:=zwh (P:=P) (B:=B) (zfk HO.1 (k:=3) om) (by rw[HC.1.2.2.2];exact YA) (by rw[HC.2.2.2.2];exact zN);rw[HC.1.1,HC.1.2.1,HC.1.2.2.1,HC.2.1,HC.2.2.1,HC.2.2.2.1]at hl hg;have HL:=kA hl;have HG:=kA hg;obtain⟨u,f1,hu,Kw⟩:∃u f,u=zik [l0,l1,l2,P 3]/\f=zfh [l0,l1,l2,P 3]:=⟨_,_,rfl,rfl⟩;obtain⟨v,f2,hv,CE⟩:∃u f,u=zik [g0,g1,g2,P 3]/\f=zfh [g0,g1,g2,P 3]:=⟨_,_,rfl,rfl⟩;rw[<-Kw]at J0 ZR;rw[<-CE]at YB ZR;rw[<-hu,<-hv]at ZR;have T1:Hid (∀w',Calls prog 291 #[.agg #[.int .i64 l0,.int .i64 l1,.int .i64 l2],.int .i64 (P 3)] w' λe dN=>e= .returned (.tuple #[.int .i64 u,.int .i64 f1])/\Bw w' dN):=
    kA (λw'=>(zjK l0 l1 l2 (P 3) w').mono λ_ _ ⟨he,hw⟩=>⟨by rw[he,hu,Kw],hw⟩)
   have T2:Hid (∀w',Calls prog 291 #[.agg #[.int .i64 g0,.int .i64 g1,.int .i64 g2],.int .i64 (P 3)] w' λe dN=>e= .returned (.tuple #[.int .i64 v,.int .i64 f2])/\Bw w' dN):=
    kA (λw'=>(zjK g0 g1 g2 (P 3) w').mono λ_ _ ⟨he,hw⟩=>⟨by rw[he,hv,CE],hw⟩)
   have HX:=kA (And.intro J0 (And.intro YB ZR));clear hl hg J0 YB ZR hu Kw hv CE YA zN;go_enter func263,ntmps263;go_wp2_with fail;refine (H1 _).mono ?_;rintro e w1 ⟨rfl,b1⟩;have KP:=kA (((Blk.new w 348 _).alloc _).keep b1);have KB:=kA (zbe ((Blk.new (w.alloc _) 50 _).keep b1) (g':=w.heap.size+1) (by simp));have B1:=kA (zad (zag (zaa _ _) _) b1);clear b1;obtain⟨d0,d1,d2,d3,d4,d5,_⟩:=zu1 KB;obtain⟨p0,p1,p2,p3⟩:=zzy KP;have z:=KB.lt;have z':=KP.lt;go_wp2_with fail;refine (H2 _).mono ?_;rintro e w2 ⟨rfl,b2⟩;replace KP:=kA ((KP.alloc _).keep b2);have KX:=kA ((Blk.new w1 48 _).keep b2);replace B1:=kA (zad (zag B1 _) b2);clear b2 d0 d1 d2 d3 d4 d5 p0 p1 p2 p3 KB z z';go_wp2;refine fin (λW=>Blk W w.heap.size 348 #[.int .i64 (P 0),.int .i64 (P 1),.int .i64 (P 2),.int .i64 (P 3)]/\Blk W w1.heap.size 48 #[.int .i64 a0,.int .i64 a1,.int .i64 a2]/\Blk W w2.heap.size 48 #[.int .i64 b0,.int .i64 b1,.int .i64 b2]/\Bw w W) ⟨KP.alloc _,KX.alloc _,Blk.new w2 _ _,zag B1 _⟩ ?_;clear KP KX B1;rintro W ⟨kp,kx,ky,hb⟩;have KP:=kA kp;have KX:=kA kx;have KY:=kA ky;have HB:=kA hb;clear kp kx ky hb;have HS:Hid (∀w',Bw W w'->(w'.cell? ⟨w1.heap.size,0,none⟩=some (.int .i64 a0)/\w'.cell? ⟨w1.heap.size,1,none⟩=some (.int .i64 a1)/\w'.cell? ⟨w1.heap.size,2,none⟩=some (.int .i64 a2)/\w'.cell? ⟨w2.heap.size,0,none⟩=some (.int .i64 b0)/\w'.cell? ⟨w2.heap.size,1,none⟩=some (.int .i64 b1)/\w'.cell? ⟨w2.heap.size,2,none⟩=some (.int .i64 b2)/\w'.cell? ⟨w.heap.size,3,none⟩=some (.int .i64 (P 3)))):=
    kA (λw' hb=>⟨(KX.keep hb).cell 0,(KX.keep hb).cell 1,(KX.keep hb).cell 2,(KY.keep hb).cell 0,(KY.keep hb).cell 1,(KY.keep hb).cell 2,(KP.keep hb).cell 3⟩)
   go_region_held3 (λw'=>w'.cell? ⟨w1.heap.size,0,none⟩=some (.int .i64 a0)/\w'.cell? ⟨w1.heap.size,1,none⟩=some (.int .i64 a1)/\w'.cell? ⟨w1.heap.size,2,none⟩=some (.int .i64 a2)/\w'.cell? ⟨w2.heap.size,0,none⟩=some (.int .i64 b0)/\w'.cell? ⟨w2.heap.size,1,none⟩=some (.int .i64 b1)/\w'.cell? ⟨w2.heap.size,2,none⟩=some (.int .i64 b2)/\w'.cell? ⟨w.heap.size,3,none⟩=some (.int .i64 (P 3)))
    (first | exact HS _ (zad (zad (zaa _ _) (zaH c1)) c2) | exact HS _ (zad (zaa _ _) (zaH c1)) | exact HS _ (za5 (zaa _ _)) | exact HS _ (za5 (Below.refl _ _)))
    (first | (go_at_call 291;refine (T1 _).mono ?_;rintro e w4 ⟨rfl,c2⟩) | (go_at_call 278;refine (zfl _ _ _ l0 l1 l2 HL (zk6 (Blk.drew (Blk.new W _ _)))).mono ?_;rintro e w3 ⟨rfl,c1⟩))
   have B2:=kA (zad (zad (zaa _ _) (zaH c1)) c2);clear c1 c2 HS;replace KP:=kA (KP.keep B2);replace KX:=kA (KX.keep B2);replace KY:=kA (KY.keep B2);replace HB:=kA (zad HB B2);clear B2
   by_cases Kw:f1=0
   ·have DT:(f1 != 0)=false:=by rw[Kw];rfl
    have jG:=kA Kw;clear Kw;go_wp2;have HS:Hid (∀w',Bw w4 w'->(w'.cell? ⟨w1.heap.size,0,none⟩=some (.int .i64 a0)/\w'.cell? ⟨w1.heap.size,1,none⟩=some (.int .i64 a1)/\w'.cell? ⟨w1.heap.size,2,none⟩=some (.int .i64 a2)/\w'.cell? ⟨w2.heap.size,0,none⟩=some (.int .i64 b0)/\w'.cell? ⟨w2.heap.size,1,none⟩=some (.int .i64 b1)/\w'.cell? ⟨w2.heap.size,2,none⟩=some (.int .i64 b2)/\w'.cell? ⟨w.heap.size,3,none⟩=some (.int .i64 (P 3)))):=
     kA (λw' hb=>⟨(KX.keep hb).cell 0,(KX.keep hb).cell 1,(KX.keep hb).cell 2,(KY.keep hb).cell 0,(KY.keep hb).cell 1,(KY.keep hb).cell 2,(KP.keep hb).cell 3⟩)
    go_region_held3 (λw'=>w'.cell? ⟨w1.heap.size,0,none⟩=some (.int .i64 a0)/\w'.cell? ⟨w1.heap.size,1,none⟩=some (.int .i64 a1)/\w'.cell? ⟨w1.heap.size,2,none⟩=some (.int .i64 a2)/\w'.cell? ⟨w2.heap.size,0,none⟩=some (.int .i64 b0)/\w'.cell? ⟨w2.heap.size,1,none⟩=some (.int .i64 b1)/\w'.cell? ⟨w2.heap.size,2,none⟩=some (.int .i64 b2)/\w'.cell? ⟨w.heap.size,3,none⟩=some (.int .i64 (P 3)))
     (first | exact HS _ (zad (zad (zaa _ _) (zaH c1)) c2) | exact HS _ (zad (zaa _ _) (zaH c1)) | exact HS _ (za5 (zaa _ _)) | exact HS _ (za5 (Below.refl _ _)))
     (first | (go_at_call 291;refine (T2 _).mono ?_;rintro e w6 ⟨rfl,c2⟩) | (go_at_call 292;refine (zom _ _ _ g0 g1 g2 HG (zk6 (Blk.drew (Blk.new w4 _ _)))).mono ?_;rintro e w5 ⟨rfl,c1⟩))
    have He:=kA (zad HB (zad (zad (zaa _ _) (zaH c1)) c2));clear c1 c2 HS
    by_cases CE:f2=0
    ·have Km:(f2 != 0)=false:=by rw[CE];rfl
     have T9:=kA CE;clear CE;go_wp2;have q:=HX.2.2 jG T9;exact bodyPost_ret (v:= .tuple #[.int .i64 u,.int .i64 v,.int .i64 0]) (by simp[results,results263,go_sem]) rfl ⟨by rw[q.1,q.2.1,q.2.2],He⟩
    ·have Km:(f2 != 0)=true:=by simpa using CE
     have q:=kA (HX.2.1 CE);clear CE;go_wp2;exact bodyPost_ret (v:= .tuple #[.int .i64 0,.int .i64 0,.int .i64 f2]) (by simp[results,results263,go_sem]) rfl ⟨by rw[q.out.1,q.out.2,(zjw q.out.2).1,(zjw q.out.2).2],He⟩
   ·have DT:(f1 != 0)=true:=by simpa using Kw
    have q:=kA (HX.1 Kw);clear Kw;go_wp2;exact bodyPost_ret (v:= .tuple #[.int .i64 0,.int .i64 0,.int .i64 f1]) (by simp[results,results263,go_sem]) rfl ⟨by rw[q.out.1,q.out.2,(zjw q.out.2).1,(zjw q.out.2).2],HB⟩
  ·have Dv:(y2 != 0)=true:=by simpa using zN
   have q:=kA (zyk (t:=P 3) HO.1 HO.2 (by rw[HC.2.2.2.2];exact zN));rw[HC.2.2.2.2]at q;clear YA zN;go_enter func263,ntmps263;go_wp2_with fail;refine (H1 _).mono ?_;rintro e w1 ⟨rfl,b1⟩;have KP:=kA (((Blk.new w 348 _).alloc _).keep b1);have KB:=kA (zbe ((Blk.new (w.alloc _) 50 _).keep b1) (g':=w.heap.size+1) (by simp));have B1:=kA (zad (zag (zaa _ _) _) b1);clear b1;obtain⟨d0,d1,d2,d3,d4,d5,_⟩:=zu1 KB;obtain⟨p0,p1,p2,p3⟩:=zzy KP;have z:=KB.lt;have z':=KP.lt;go_wp2_with fail;refine (H2 _).mono ?_;rintro e w2 ⟨rfl,b2⟩;replace B1:=kA (zad (zag B1 _) b2);clear b2 d0 d1 d2 d3 d4 d5 p0 p1 p2 p3 KB KP z z';go_wp2;exact bodyPost_ret (v:= .tuple #[.int .i64 0,.int .i64 0,.int .i64 y2]) (by simp[results,results263,go_sem]) rfl ⟨by rw[q.out.1,q.out.2,(zjw q.out.2).1,(zjw q.out.2).2],zag B1 _⟩
 ·have T8:(y1 != 0)=true:=by simpa using YA
  have q:=kA (zyj (t:=P 3) HO.1 HO.2 (by rw[HC.1.2.2.2];exact YA));rw[HC.1.2.2.2]at q;clear YA;go_enter func263,ntmps263;go_wp2_with fail;refine (H1 _).mono ?_;rintro e w1 ⟨rfl,b1⟩;have B1:=kA (zad (zag (zaa _ _) _) b1);clear b1;go_wp2;exact bodyPost_ret (v:= .tuple #[.int .i64 0,.int .i64 0,.int .i64 y1]) (by simp[results,results263,go_sem]) rfl ⟨by rw[q.out.1,q.out.2,(zjw q.out.2).1,(zjw q.out.2).2],zag B1 _⟩
theorem zs6(B:Nat->Int):zcm B=(zbU [(B 0,B 1,B 2),(B 3,B 4,B 5)] && (bet zc7 (B 0) (B 3)==B 0 && bet zc7 (B 1) (B 4)==B 1 && bet zc7 (B 2) (B 5)==B 2)):=by
 have e:∀a b:Int,(bet zc7 a b==a)=decide (a<=b):=λa b=>by
  rw[zf5]
  by_cases c:a<=b
  ·rw[show min a b=a by omega,decide_eq_true c];simp
  ·rw[decide_eq_false c];simp;omega
 rw[e,e,e];unfold zcm zhu zhu zhu zhu
 cases zbU [(B 0,B 1,B 2),(B 3,B 4,B 5)] <;> simp[Bool.and_assoc]
theorem zir{a:Option Addr}{len:Nat}{vs:List V3}(hr:zbU vs=b)(row:VRow w a len vs):
  Calls prog 277 #[.slice a len cap] w λe w'=>e= .returned (.bool b)/\Bw w w':=
 (zn2 a len cap vs w row).mono λ_ _ ⟨he,hw⟩=>⟨by rw[he,hr],hw⟩
theorem zlm(a:Option Addr)(len cap:Nat)(Bs:List (Nat->Int))(w:World)(row:BRow w a len Bs):
  Calls prog 238 #[.slice a len cap] w λe w'=>e= .returned (.bool (zdI Bs))/\Bw w w':=by
 have HL:=kA row.1;have Hy:=row.2.1;have hJ:=kA row;clear row;go_enter func238,ntmps238;go_wp2
 go_loopw [4,7] (λ_ i wr=>∃k:Nat,k<=len/\i= .int .i64 k/\zdI (Bs.take k)=true/\Bw w wr) (λ_ i _=>len - (intOf i).toNat)
 case atStart=>exact⟨0,zero_le _,rfl,rfl,Below.refl _ _⟩
 case round=>
  obtain⟨k,hk,rfl,hr,hb⟩:=hrel;have HR:=kA hr;have HB:=kA hb;clear hr hb
  by_cases hlt:k<len
  ·obtain⟨b,off,B,rfl,hv,m0,m1,m2,m3,m4,m5⟩:=(zpK hJ HB).at_ hlt;have HV:=kA hv;clear hv;have HS:Hid (∀w',Below (wr.alloc (.cells #[.int .i64 (B 0),.int .i64 (B 1),.int .i64 (B 2),.int .i64 (B 3),.int .i64 (B 4),.int .i64 (B 5)] 50)).heap.size (wr.alloc (.cells #[.int .i64 (B 0),.int .i64 (B 1),.int .i64 (B 2),.int .i64 (B 3),.int .i64 (B 4),.int .i64 (B 5)] 50)) w'->(w'.cell? ⟨wr.heap.size,0,none⟩=some (.int .i64 (B 0))/\w'.cell? ⟨wr.heap.size,1,none⟩=some (.int .i64 (B 1))/\w'.cell? ⟨wr.heap.size,2,none⟩=some (.int .i64 (B 2))/\w'.cell? ⟨wr.heap.size,3,none⟩=some (.int .i64 (B 3))/\w'.cell? ⟨wr.heap.size,4,none⟩=some (.int .i64 (B 4))/\w'.cell? ⟨wr.heap.size,5,none⟩=some (.int .i64 (B 5)))):=
    kA (λw' hb=>⟨((Blk.new wr _ _).keep hb).cell 0,((Blk.new wr _ _).keep hb).cell 1,((Blk.new wr _ _).keep hb).cell 2,((Blk.new wr _ _).keep hb).cell 3,((Blk.new wr _ _).keep hb).cell 4,((Blk.new wr _ _).keep hb).cell 5⟩)
   obtain⟨p0,p1,p2,hp⟩:∃p0 p1 p2,pk zc7 [(B 0,B 1,B 2),(B 3,B 4,B 5)]=(p0,p1,p2):=⟨_,_,_,rfl⟩;have H8:=zs6 B;obtain⟨q0,hq⟩:bet zc7 (B 0) (B 3)=p0/\bet zc7 (B 1) (B 4)=p1/\bet zc7 (B 2) (B 5)=p2:=by
    have h3:(bet zc7 (B 0) (B 3),bet zc7 (B 1) (B 4),bet zc7 (B 2) (B 5))=(p0,p1,p2):=hp;simpa using h3
   rw[q0,hq.1,hq.2]at H8;have HP:=kA hp;have dJ:=kA H8;clear hp H8 q0 hq;have heq:=zzx
   by_cases DU:zbU [(B 0,B 1,B 2),(B 3,B 4,B 5)]=true
   ·have H7:=kA DU;clear DU
    by_cases ZS:(p0==B 0 && p1==B 1 && p2==B 2)=true
    ·go_wp2
     go_region_held3 (λw'=>w'.cell? ⟨wr.heap.size,0,none⟩=some (.int .i64 (B 0))/\w'.cell? ⟨wr.heap.size,1,none⟩=some (.int .i64 (B 1))/\w'.cell? ⟨wr.heap.size,2,none⟩=some (.int .i64 (B 2))/\w'.cell? ⟨wr.heap.size,3,none⟩=some (.int .i64 (B 3))/\w'.cell? ⟨wr.heap.size,4,none⟩=some (.int .i64 (B 4))/\w'.cell? ⟨wr.heap.size,5,none⟩=some (.int .i64 (B 5)))
      (first | exact HS _ (zad (zag (zad (zaa _ _) (zaH c1)) _) c2) | exact HS _ (zag (zad (zaa _ _) (zaH c1)) _) | exact HS _ (zad (zaa _ _) (zaH c1)) | exact HS _ (za5 (zaa _ _)) | exact HS _ (za5 (Below.refl _ _)))
      (first | (go_at_call 278;refine (zfl _ _ _ p0 p1 p2 HP (zk6 (Blk.new _ _ _))).mono ?_;rintro e w2 ⟨rfl,c2⟩) | (go_at_call 277;refine (zir H7 (zk6 (Blk.drew (zbe (Blk.new _ _ _) (by simp))))).mono ?_;rintro e w1 ⟨rfl,c1⟩))
     have B2:=kA (zad (zag (zad (zag (zag HB _) _) (zaH c1)) _) c2);have HG:=kA (show zcm B=true by rw[dJ.out,H7.out,ZS];rfl);clear c1 c2 ZS m0 m1 m2 m3 m4 m5;go_wp2;go_roundw
     case rel=>exact⟨k+1,om,by go_num,zjz HV HR HG,B2⟩
     case measure=>simp[intOf] <;> omega
    ·have ZT:(p0==B 0 && p1==B 1 && p2==B 2)=false:=by simpa using ZS
     clear ZS;go_wp2
     go_region_held3 (λw'=>w'.cell? ⟨wr.heap.size,0,none⟩=some (.int .i64 (B 0))/\w'.cell? ⟨wr.heap.size,1,none⟩=some (.int .i64 (B 1))/\w'.cell? ⟨wr.heap.size,2,none⟩=some (.int .i64 (B 2))/\w'.cell? ⟨wr.heap.size,3,none⟩=some (.int .i64 (B 3))/\w'.cell? ⟨wr.heap.size,4,none⟩=some (.int .i64 (B 4))/\w'.cell? ⟨wr.heap.size,5,none⟩=some (.int .i64 (B 5)))
      (first | exact HS _ (zad (zag (zad (zaa _ _) (zaH c1)) _) c2) | exact HS _ (zag (zad (zaa _ _) (zaH c1)) _) | exact HS _ (zad (zaa _ _) (zaH c1)) | exact HS _ (za5 (zaa _ _)) | exact HS _ (za5 (Below.refl _ _)))
      (first | (go_at_call 278;refine (zfl _ _ _ p0 p1 p2 HP (zk6 (Blk.new _ _ _))).mono ?_;rintro e w2 ⟨rfl,c2⟩) | (go_at_call 277;refine (zir H7 (zk6 (Blk.drew (zbe (Blk.new _ _ _) (by simp))))).mono ?_;rintro e w1 ⟨rfl,c1⟩))
     have B2:=kA (zad (zag (zad (zag (zag HB _) _) (zaH c1)) _) c2);have HG:=kA (show zcm B=false by rw[dJ.out,H7.out,ZT];rfl);clear c1 c2 ZT m0 m1 m2 m3 m4 m5;go_wp2;go_ret;exact⟨by rw[zgp HV HG];rfl,B2⟩
   ·have ZL:zbU [(B 0,B 1,B 2),(B 3,B 4,B 5)]=false:=by simpa using DU
    have H7:=kA ZL;clear DU ZL;go_wp2;refine wp_region_held_drew (S:=(λw'=>w'.cell? ⟨wr.heap.size,0,none⟩=some (.int .i64 (B 0))/\w'.cell? ⟨wr.heap.size,1,none⟩=some (.int .i64 (B 1))/\w'.cell? ⟨wr.heap.size,2,none⟩=some (.int .i64 (B 2))/\w'.cell? ⟨wr.heap.size,3,none⟩=some (.int .i64 (B 3))/\w'.cell? ⟨wr.heap.size,4,none⟩=some (.int .i64 (B 4))/\w'.cell? ⟨wr.heap.size,5,none⟩=some (.int .i64 (B 5)))) oM (HS _ (za5 (Below.refl _ _))) (λhHeld=> ?_);refine wpAnyH_take (i:=0) (v:= ?_) rfl oM oM oM (λ_ _ _ h=>h) (.inl ⟨by rfl,?_⟩) hHeld ?_
    rotate_left
    ·rintro w ⟨s0,s1,s2,s3,s4,s5⟩;go_simp
     with_reducible rfl
    simp only[Act.put,getElem_toArray,getElem_cons_zero,setIfInBounds_toArray,set_cons_zero,set_cons_succ];refine wpAnyH_take (i:=1) (v:= ?_) rfl oM oM oM (λ_ _ _ h=>h) (.inl ⟨by rfl,?_⟩) hHeld ?_
    rotate_left
    ·rintro w ⟨s0,s1,s2,s3,s4,s5⟩;go_simp
     with_reducible rfl
    simp only[Act.put,getElem_toArray,getElem_cons_zero,getElem_cons_succ,setIfInBounds_toArray,set_cons_zero,set_cons_succ];refine wpAnyH_take (i:=2) (v:= ?_) rfl oM oM oM (λ_ _ _ h=>h) (.inl ⟨by rfl,?_⟩) hHeld ?_
    rotate_left
    ·rintro w ⟨s0,s1,s2,s3,s4,s5⟩;go_simp
     with_reducible rfl
    simp only[Act.put,getElem_toArray,getElem_cons_zero,getElem_cons_succ,setIfInBounds_toArray,set_cons_zero,set_cons_succ];refine wpAnyH_take (i:=3) (v:= ?_) rfl oM oM oM (λ_ _ _ h=>h) (.inl ⟨by rfl,?_⟩) hHeld ?_
    rotate_left
    ·rintro w ⟨s0,s1,s2,s3,s4,s5⟩;go_simp
     with_reducible rfl
    simp only[Act.put,getElem_toArray,getElem_cons_zero,getElem_cons_succ,setIfInBounds_toArray,set_cons_zero,set_cons_succ];refine rd 4 (λK hK=> ?_);go_simp;refine hK.out _ _ (HS _ (za5 (zaa _ _))) (λhHeld=> ?_);clear hK K;refine rd 5 (λK hK=> ?_);go_simp
    go_at_call 277
    refine (zir H7 (zk6 (Blk.drew (zbe (Blk.new _ _ _) (by simp))))).mono ?_;rintro e w1 ⟨rfl,c1⟩;go_wp2_with fail;refine hK.out _ _ (HS _ (zad (zaa _ _) (zaH c1))) (λhHeld=> ?_);clear hK K;refine tk 6 hHeld ?_;refine tk 7 hHeld ?_;refine tks 8 hHeld ?_;refine tks 9 hHeld ?_;refine tks 10 hHeld ?_;refine tks 11 hHeld ?_;refine tks 12 hHeld ?_;refine tks 13 hHeld ?_;refine tks 14 hHeld ?_;refine tks 15 hHeld ?_;refine tks 16 hHeld ?_;refine tk 17 hHeld ?_;refine wpAnyH_done oM ?_ _;clear hHeld;have B2:=kA (zad (zag (zag HB _) _) (zaH c1));have HG:=kA (show zcm B=false by rw[dJ.out,H7.out];rfl);clear c1 m0 m1 m2 m3 m4 m5;go_wp2;go_ret;exact⟨by rw[zgp HV HG];rfl,B2⟩
  ·obtain rfl:k=len:=om;go_wp2;go_ret;exact⟨by rw[show Bs=Bs.take k from (take_of_length_le (by rw[HL.out];exact Nat.le_refl _)).symm,HR.out];rfl,HB⟩
theorem zzK{t:TypeId}(h:Blk w g t #[.int .i64 (B 0),.int .i64 (B 1),.int .i64 (B 2),.int .i64 (B 3),.int .i64 (B 4),.int .i64 (B 5)]):BRow w (some ⟨g,0,none⟩) 1 [B]:=by
 refine⟨rfl,om,.inr ⟨_,_,rfl,λi hi j hj=> ?_⟩⟩;obtain rfl:i=0:=om;rcases lt6 hj with rfl | rfl | rfl | rfl | rfl | rfl
 ·exact h.cell 0
 ·exact h.cell 1
 ·exact h.cell 2
 ·exact h.cell 3
 ·exact h.cell 4
 ·exact h.cell 5
theorem zis(ho:zcm B=b){w:World}{g cap:Nat}{t:TypeId}(h:Blk w g t #[.int .i64 (B 0),.int .i64 (B 1),.int .i64 (B 2),.int .i64 (B 3),.int .i64 (B 4),.int .i64 (B 5)]):
  Calls prog 238 #[.slice (some ⟨g,0,none⟩) 1 cap] w λe w'=>e= .returned (.bool b)/\Bw w w':=
 (zlm _ 1 cap [B] w (zzK h)).mono λ_ _ ⟨he,hw⟩=>⟨by rw[he];unfold zdI;simp[ho],hw⟩
theorem zln{M:Nat->Int}(h:okM M=true){r:Nat}(hr:r<3):zef (spM M r)=true:=by
 unfold zef zaK spM;simp[zmA h (k:=4*r+1) om,zmA h (k:=4*r+2) om,zmA h (k:=4*r+3) om];exact zmA h (k:=4*r) om
theorem zlo(M B:Nat->Int)(w:World)(h:okM M=false):
  Calls prog 216 #[.agg #[.int .i64 (M 0),.int .i64 (M 1),.int .i64 (M 2),.int .i64 (M 3),.int .i64 (M 4),.int .i64 (M 5),.int .i64 (M 6),.int .i64 (M 7),.int .i64 (M 8),.int .i64 (M 9),.int .i64 (M 10),.int .i64 (M 11)],.agg #[.int .i64 (B 0),.int .i64 (B 1),.int .i64 (B 2),.int .i64 (B 3),.int .i64 (B 4),.int .i64 (B 5)]] w λe w'=>e= .returned (.tuple #[.agg #[.int .i64 0,.int .i64 0,.int .i64 0,.int .i64 0,.int .i64 0,.int .i64 0],.int .i64 1])/\Bw w w':=by
 have HO:=kA h;clear h;go_enter func216,ntmps216;go_wp2_with fail;refine (zim HO (zbe (Blk.new _ _ _) (by simp))).mono ?_;rintro e w1 ⟨rfl,b1⟩;have KR:=kA (zbe (((Blk.new ((w.alloc _).alloc _) 50 _).alloc _).keep b1) (g':=w.heap.size+2) (by simp));have B1:=kA (zad (zag (zag (zag (zaa _ _) _) _) _) b1);clear b1;obtain⟨c0,c1,c2,c3,c4,c5,f0,f1,f2,f3,f4,f5⟩:=zu1 KR;go_wp2;exact bodyPost_ret (v:= .tuple #[.agg #[.int .i64 0,.int .i64 0,.int .i64 0,.int .i64 0,.int .i64 0,.int .i64 0],.int .i64 1]) (by simp[results,results216,go_sem,c0,c1,c2,c3,c4,c5]) rfl ⟨rfl,zsN B1 om⟩
theorem zlp(M B:Nat->Int)(w:World)(h:okM M=true)(h':zcm B=false):
  Calls prog 216 #[.agg #[.int .i64 (M 0),.int .i64 (M 1),.int .i64 (M 2),.int .i64 (M 3),.int .i64 (M 4),.int .i64 (M 5),.int .i64 (M 6),.int .i64 (M 7),.int .i64 (M 8),.int .i64 (M 9),.int .i64 (M 10),.int .i64 (M 11)],.agg #[.int .i64 (B 0),.int .i64 (B 1),.int .i64 (B 2),.int .i64 (B 3),.int .i64 (B 4),.int .i64 (B 5)]] w λe w'=>e= .returned (.tuple #[.agg #[.int .i64 0,.int .i64 0,.int .i64 0,.int .i64 0,.int .i64 0,.int .i64 0],.int .i64 1])/\Bw w w':=by
 have HO:=kA (And.intro h h');clear h h';go_enter func216,ntmps216;go_wp2_with fail;refine (zim HO.1 (zbe (Blk.new _ _ _) (by simp))).mono ?_;rintro e w1 ⟨rfl,b1⟩;have KR:=kA (zbe (((Blk.new ((w.alloc _).alloc _) 50 _).alloc _).keep b1) (g':=w.heap.size+2) (by simp));have KB:=kA (zbe ((((Blk.new (w.alloc _) 50 _).alloc _).alloc _).keep b1) (g':=w.heap.size+1) (by simp));have B1:=kA (zad (zag (zag (zag (zaa _ _) _) _) _) b1);clear b1;obtain⟨d0,d1,d2,d3,d4,d5,_⟩:=zu1 KB;have z:=KB.lt;go_wp2_with fail;refine (zis HO.2 (zbe (Blk.new _ _ _) (by simp))).mono ?_;rintro e w2 ⟨rfl,b2⟩;replace KR:=kA ((KR.alloc _).keep b2);replace B1:=kA (zad (zag B1 _) b2);clear b2 d0 d1 d2 d3 d4 d5 z;obtain⟨c0,c1,c2,c3,c4,c5,f0,f1,f2,f3,f4,f5⟩:=zu1 KR;go_wp2;exact bodyPost_ret (v:= .tuple #[.agg #[.int .i64 0,.int .i64 0,.int .i64 0,.int .i64 0,.int .i64 0,.int .i64 0],.int .i64 1]) (by simp[results,results216,go_sem,c0,c1,c2,c3,c4,c5]) rfl ⟨rfl,zsN B1 om⟩
theorem zlq(M B:Nat->Int)(w:World)(h:okM M=true)(h':zcm B=true):
  Calls prog 216 #[.agg #[.int .i64 (M 0),.int .i64 (M 1),.int .i64 (M 2),.int .i64 (M 3),.int .i64 (M 4),.int .i64 (M 5),.int .i64 (M 6),.int .i64 (M 7),.int .i64 (M 8),.int .i64 (M 9),.int .i64 (M 10),.int .i64 (M 11)],.agg #[.int .i64 (B 0),.int .i64 (B 1),.int .i64 (B 2),.int .i64 (B 3),.int .i64 (B 4),.int .i64 (B 5)]] w λe w'=>e= .returned (.tuple #[.agg #[.int .i64 (zcH M B 0),.int .i64 (zcH M B 1),.int .i64 (zcH M B 2),.int .i64 (zcH M B 3),.int .i64 (zcH M B 4),.int .i64 (zcH M B 5)],.int .i64 (zjo M B)])/\Bw w w':=by
 have HO:=kA (And.intro h h');clear h h';go_enter func216,ntmps216;go_wp2_with fail;refine (zim HO.1 (zbe (Blk.new _ _ _) (by simp))).mono ?_;rintro e w1 ⟨rfl,b1⟩;have KM:=kA (((((Blk.new w 46 _).alloc _).alloc _).alloc _).keep b1);have KR:=kA (zbe (((Blk.new ((w.alloc _).alloc _) 50 _).alloc _).keep b1) (g':=w.heap.size+2) (by simp));have KB:=kA (zbe ((((Blk.new (w.alloc _) 50 _).alloc _).alloc _).keep b1) (g':=w.heap.size+1) (by simp));have B1:=kA (zad (zag (zag (zag (zaa _ _) _) _) _) b1);clear b1;obtain⟨d0,d1,d2,d3,d4,d5,_⟩:=zu1 KB;have z:=KB.lt;go_wp2_with fail;refine (zis HO.2 (zbe (Blk.new _ _ _) (by simp))).mono ?_;rintro e w2 ⟨rfl,b2⟩;replace KM:=kA ((KM.alloc _).keep b2);replace KR:=kA ((KR.alloc _).keep b2);replace KB:=kA ((KB.alloc _).keep b2);replace B1:=kA (zad (zag B1 _) b2);clear b2 d0 d1 d2 d3 d4 d5 z;go_wp2
 go_loopw [22] (λi wr=>∃k:Nat,k<=3/\i= .int .i64 k/\(∀j,j<k->caE M B j=0)/\wr.rowIs w2.heap.size 50 6 (zgo (caK M B) k)/\BM wr w.heap.size M/\Blk wr (w.heap.size+1) 50 #[.int .i64 (B 0),.int .i64 (B 1),.int .i64 (B 2),.int .i64 (B 3),.int .i64 (B 4),.int .i64 (B 5)]/\Blk wr (w.heap.size+2) 50 #[.int .i64 0,.int .i64 0,.int .i64 0,.int .i64 0,.int .i64 0,.int .i64 0]/\Bw w wr) (λi _=>3 - (intOf i).toNat)
 case atStart=>exact⟨0,om,rfl,λj hj=>om,zn8 _ _ _,KM.alloc _,KB.alloc _,KR.alloc _,zag B1 _⟩
 case round=>
  have Ho:w.heap.size+2<w2.heap.size:=KR.lt;clear KM KB KR B1;obtain⟨r,ZL,rfl,hz,Hd,ha,KD,kZ,hb⟩:=hrel;have HZ:=kA hz;have hJ:=kA Hd;have HM:=kA ha;have KB:=kA KD;have kw:=kA kZ;have HB:=kA hb;clear hz Hd ha KD kZ hb
  by_cases hr:r<3
  ·have ba:=kA (zln HO.1 hr);have X4:(0:Int)<=(r:Int):=om;have T4:(r:Int)<3:=om;have J1:=zv1 M;have hu:=underlying46;have HS:Hid (∀w',Bw wr w'->(w'.rangeAt w.heap.size 0 [.int .i64 (M 0),.int .i64 (M 1),.int .i64 (M 2),.int .i64 (M 3),.int .i64 (M 4),.int .i64 (M 5),.int .i64 (M 6),.int .i64 (M 7),.int .i64 (M 8),.int .i64 (M 9),.int .i64 (M 10),.int .i64 (M 11)]/\w'.cell? ⟨w.heap.size+1,0,none⟩=some (.int .i64 (B 0))/\w'.cell? ⟨w.heap.size+1,1,none⟩=some (.int .i64 (B 1))/\w'.cell? ⟨w.heap.size+1,2,none⟩=some (.int .i64 (B 2))/\w'.cell? ⟨w.heap.size+1,3,none⟩=some (.int .i64 (B 3))/\w'.cell? ⟨w.heap.size+1,4,none⟩=some (.int .i64 (B 4))/\w'.cell? ⟨w.heap.size+1,5,none⟩=some (.int .i64 (B 5)))):=
    kA (λw' hb=>⟨zpQ (Blk.keep HM hb),(KB.keep hb).cell 0,(KB.keep hb).cell 1,(KB.keep hb).cell 2,(KB.keep hb).cell 3,(KB.keep hb).cell 4,(KB.keep hb).cell 5⟩)
   go_wp2
   go_region_held3 (λw'=>w'.rangeAt w.heap.size 0 [.int .i64 (M 0),.int .i64 (M 1),.int .i64 (M 2),.int .i64 (M 3),.int .i64 (M 4),.int .i64 (M 5),.int .i64 (M 6),.int .i64 (M 7),.int .i64 (M 8),.int .i64 (M 9),.int .i64 (M 10),.int .i64 (M 11)]/\w'.cell? ⟨w.heap.size+1,0,none⟩=some (.int .i64 (B 0))/\w'.cell? ⟨w.heap.size+1,1,none⟩=some (.int .i64 (B 1))/\w'.cell? ⟨w.heap.size+1,2,none⟩=some (.int .i64 (B 2))/\w'.cell? ⟨w.heap.size+1,3,none⟩=some (.int .i64 (B 3))/\w'.cell? ⟨w.heap.size+1,4,none⟩=some (.int .i64 (B 4))/\w'.cell? ⟨w.heap.size+1,5,none⟩=some (.int .i64 (B 5)))
    (first | exact HS _ (zad (zaH x1) x2) | exact HS _ (zaH x1) | exact HS _ (za5 (Below.refl _ _)))
    (first | (go_at_call 263;refine (zs5 (spM M r) B _ ba HO.2).mono ?_;rintro e w4 ⟨rfl,x2⟩) | (go_at_call 264;refine (zp5 M r _ hr).mono ?_;rintro e w3 ⟨rfl,x1⟩))
   have B3:=kA (zad (zaH x1) x2);clear x1 x2 HS;have Hl:=kA (hJ.of_block (B3.block _ hJ.lt));have De:=kA (Blk.keep HM B3);have SH:=kA (KB.keep B3);have kv:=kA (kw.keep B3);have He:=kA (zad HB B3);clear B3 hJ HM KB kw HB;obtain⟨p,hp⟩:∃p,p=zvW (spM M r) B (spM M r 3):=⟨_,rfl⟩;obtain⟨q,hq⟩:∃q,q=zvX (spM M r) B (spM M r 3):=⟨_,rfl⟩;obtain⟨s,hs⟩:∃s,s=enE (spM M r) B (spM M r 3):=⟨_,rfl⟩;have HD:Hid (zzA M B r=p/\zzB M B r=q/\caE M B r=s):=kA (by rw[hp,hq,hs];exact⟨rfl,rfl,rfl⟩);rw[<-hp,<-hq,<-hs];clear hp hq hs
   by_cases he:s=0
   ·have KC:=kA he;have Cv:(s != 0)=false:=by rw[he];rfl
    clear he;have rc:=Hl.cell (i:=r) om;have rf:=Hl.frozen r;have rd:=(Hl.set r (.int .i64 p)).cell (i:=3+r) om;have rg:=(Hl.set r (.int .i64 p)).frozen (3+r);unfold zgo at rc rd;rw[if_neg om]at rc;rw[if_neg om,if_neg om]at rd;go_wp2;go_roundw
    case rel=>exact⟨r+1,om,by go_num,zeA HZ (by rw[HD.2.2];exact KC),((Hl.set r _).set (3+r) _).congr (λi hi=>by rw[<-HD.1,<-HD.2.1,show zzA M B r=caK M B r by unfold caK;rw[if_pos hr],show zzB M B r=caK M B (3+r) by unfold caK;rw[if_neg om,show 3+r - 3=r by omega]];exact zpJ _ hr hi),(Blk.far De (by simp <;> omega) _).far (by simp <;> omega) _,(SH.far (by simp <;> omega) _).far (by simp <;> omega) _,(kv.far (by simp <;> omega) _).far (by simp <;> omega) _,(He.setCell (by simp <;> omega) _).setCell (by simp <;> omega) _⟩
    case measure=>simp[intOf] <;> omega
   ·have KC:=kA he;have Cv:(s != 0)=true:=by simpa using he
    clear he Hl De SH;obtain⟨c0,c1,c2,c3,c4,c5,f0,f1,f2,f3,f4,f5⟩:=zu1 kv;go_wp2;have e1:zjo M B=s:=by
     rw[zmB HO.1 HO.2,<-HD.2.2];exact zgm (e:=caE M B) hr HZ (by rw[HD.2.2];exact KC)
    have e2:∀v,zph s v=0:=λv=>by unfold zph;rw[if_neg KC]
    exact bodyPost_ret (v:= .tuple #[.agg #[.int .i64 0,.int .i64 0,.int .i64 0,.int .i64 0,.int .i64 0,.int .i64 0],.int .i64 s]) (by simp[results,results216,go_sem,c0,c1,c2,c3,c4,c5]) rfl ⟨by rw[zco e1,zco e1,zco e1,zco e1,zco e1,zco e1,e1,e2,e2,e2,e2,e2,e2],zsN He om⟩
  ·obtain rfl:r=3:=om;have e1:zjo M B=0:=by rw[zmB HO.1 HO.2];exact zee (e:=caE M B) HZ
   have HE:=kA e1;clear e1;have o0:wr.cell? ⟨w2.heap.size,0,none⟩=some (.int .i64 (caK M B 0)):=hJ.cell (i:=0) om;have o1:wr.cell? ⟨w2.heap.size,1,none⟩=some (.int .i64 (caK M B 1)):=hJ.cell (i:=1) om;have o2:wr.cell? ⟨w2.heap.size,2,none⟩=some (.int .i64 (caK M B 2)):=hJ.cell (i:=2) om;have o3:wr.cell? ⟨w2.heap.size,3,none⟩=some (.int .i64 (caK M B 3)):=hJ.cell (i:=3) om;have o4:wr.cell? ⟨w2.heap.size,4,none⟩=some (.int .i64 (caK M B 4)):=hJ.cell (i:=4) om;have o5:wr.cell? ⟨w2.heap.size,5,none⟩=some (.int .i64 (caK M B 5)):=hJ.cell (i:=5) om;obtain⟨c0,c1,c2,c3,c4,c5,f0,f1,f2,f3,f4,f5⟩:=zu1 kw;go_wp2;exact bodyPost_ret (v:= .tuple #[.agg #[.int .i64 (caK M B 0),.int .i64 (caK M B 1),.int .i64 (caK M B 2),.int .i64 (caK M B 3),.int .i64 (caK M B 4),.int .i64 (caK M B 5)],.int .i64 0]) (by simp[results,results216,go_sem,c0,c1,c2,c3,c4,c5]) rfl ⟨by rw[zco HE,zco HE,zco HE,zco HE,zco HE,zco HE,HE.out,zn3,zn3,zn3,zn3,zn3,zn3],zsN HB om⟩
theorem zlr(M B:Nat->Int)(w:World):
  Calls prog 216 #[.agg #[.int .i64 (M 0),.int .i64 (M 1),.int .i64 (M 2),.int .i64 (M 3),.int .i64 (M 4),.int .i64 (M 5),.int .i64 (M 6),.int .i64 (M 7),.int .i64 (M 8),.int .i64 (M 9),.int .i64 (M 10),.int .i64 (M 11)],.agg #[.int .i64 (B 0),.int .i64 (B 1),.int .i64 (B 2),.int .i64 (B 3),.int .i64 (B 4),.int .i64 (B 5)]] w λe w'=>e= .returned (.tuple #[.agg #[.int .i64 (zcH M B 0),.int .i64 (zcH M B 1),.int .i64 (zcH M B 2),.int .i64 (zcH M B 3),.int .i64 (zcH M B 4),.int .i64 (zcH M B 5)],.int .i64 (zjo M B)])/\Bw w w':=by
 by_cases h:okM M=true
 ·by_cases h':zcm B=true
  ·exact zlq M B w h h'
  ·have h2:zcm B=false:=by simpa using h'
   have h3:zjy M B=false:=by unfold zjy;rw[h2,Bool.and_false]
   rw[zlc h3,zcn h3,zcn h3,zcn h3,zcn h3,zcn h3,zcn h3];exact zlp M B w h h2
 ·have h2:okM M=false:=by simpa using h
  have h3:zjy M B=false:=by unfold zjy;rw[h2,Bool.false_and]
  rw[zlc h3,zcn h3,zcn h3,zcn h3,zcn h3,zcn h3,zcn h3];exact zlo M B w h2
theorem zs7:0<=zT.1/\zT.1<=31:=by decide
theorem zwi(P Q:PT)(w:World):(Op.equalIn 10000 52 (.agg (pl P).toArray) (.agg (pl Q).toArray)).run prog w= .ok (eqT P Q) w:=zv6 _ _ _ _ _ _ _ _ _ _ _ _ _ _ _ _ w
theorem zmR(P:PT)(s:Int)(w:World):
  Calls prog 234 #[.agg (pl P).toArray,.int .i64 s] w λe w'=>e= .returned (.agg (pl (zcQ s P)).toArray)/\Bw w w':=by
 rw[<-zp2 s P];obtain⟨R,hR⟩:∃R,R=zfU zT P (zaT s):=⟨_,rfl⟩;have HC:Hid (∀a cap w,Row w a (zaT s).length (zaT s)->Calls prog 232 #[.agg (pl zT).toArray,.agg (pl P).toArray,.slice a (zaT s).length cap] w λe w'=>e= .returned (.agg (pl R).toArray)/\Bw w w'):=kA (λa cap w row=>by rw[hR];exact zp4 zT P a _ cap (zaT s) w zs7 (zp1 s) row);rw[<-hR];clear hR;have hu:=underlying52;have Hb:=kA (zaJ P);have KP:=kA ((Blk.new w 52 (pl P).toArray).alloc (.cells (pl zT).toArray 52));have KR:=kA (zbe (Blk.new (w.alloc (.cells (pl P).toArray 52)) 52 (pl zT).toArray) (g':=w.heap.size+1) (by simp));go_enter func234,ntmps234;go_wp2;refine wp_region_held_drew (S:=λw'=>w'.rangeAt w.heap.size 0 (pl P)) oM (zac (Blk.drew KP)) (λhHeld=> ?_);refine tk 0 hHeld ?_;refine tkl 1 rfl (yieldsIf_load_mid (by rfl) _ _ rfl _ _ rfl _ _ (λ_ h=>h) hu rfl Hb) hHeld ?_;refine tk 2 hHeld ?_;refine rd 3 (λK hK=> ?_);go_simp
 go_at_call 276
 refine (zof s _).mono ?_;rintro e w1 ⟨ka,kc,rfl,Hd,b1⟩;go_wp2_with fail;refine hK.out _ _ (zac (Blk.keep (Blk.drew KP) b1)) (λhHeld=> ?_);clear hK K hHeld;replace KP:=kA (Blk.keep (Blk.drew KP) b1);replace KR:=kA (Blk.keep (Blk.drew KR) b1);have HB:=kA (zad (zag (zaa _ _) _) (zaH b1));have hJ:=kA Hd;have hHeld:Hid (w1.rangeAt w.heap.size 0 (pl P)):=kA (zac KP);clear b1 Hd;replace hHeld:=hHeld.out;refine rd 4 (λK hK=> ?_);go_simp
 go_at_call 232
 refine (HC.out _ _ _ hJ.out).mono ?_;rintro e w2 ⟨rfl,b2⟩;go_wp2_with fail;refine hK.out _ _ (zac (Blk.keep KP.out b2)) (λhHeld=> ?_);clear hK K hHeld;replace KP:=kA (Blk.keep KP.out b2);replace KR:=kA (Blk.keep KR.out b2);replace HB:=kA (zad HB.out b2);have hHeld:=zac KP.out;clear b2 hJ;have cY:=kA (zao (X:=pl R) (Z:=pl zT) rfl ▸ zaf (pl R) KR.out (by simp[zcu]));refine rd 5 (λK hK=> ?_);rw[if_pos (by rfl)];refine wp_store_mid 52 _ _ rfl (w.heap.size+1) 0 (pl R).toArray rfl rfl (zae KR.out (by simp[zcu])) (zbL _) (zc8 _) ?_;refine hK.out _ _ (zac (zat _ KP.out om)) (λhHeld=> ?_);clear hK K;refine wpAnyH_done oM ?_ _;clear hHeld;go_wp2_with fail;refine fin (λW=>Blk W (w.heap.size+1) 52 (pl R).toArray/\Bw w W) ⟨cY.out,zab _ HB.out om⟩ ?_;rintro W ⟨kr,hb⟩;have hl:=run_loadVar_mid W (w.heap.size+1) 0 52 (pl R) _ (zac kr) underlying52 rfl (zaJ R);exact bodyPost_ret (v:= .agg (pl R).toArray) (zaD results234 rfl hl) rfl ⟨rfl,hb⟩
theorem zs8(P:PT)(w:World):
  Calls prog 177 #[.agg (pl P).toArray] w λe w'=>e= .returned (.bool (zjH P))/\Bw w w':=by
 have HC:=kA (zmR P P.1);have heq:=zwi (zcQ P.1 P) P;rw[show eqT (zcQ P.1 P) P=zjH P from rfl]at heq;obtain⟨R,hR⟩:∃R,R=zcQ P.1 P:=⟨_,rfl⟩;rw[<-hR]at HC heq;clear hR;obtain⟨b,hb⟩:∃b,b=zjH P:=⟨_,rfl⟩;rw[<-hb]at heq;rw[<-hb];clear hb;have hu:=underlying52;have Hb:=kA (zaJ P);have KP:=kA (Blk.new w 52 (pl P).toArray);go_enter func177,ntmps177;go_wp2;refine wp_region_held_drew (S:=λw'=>w'.rangeAt w.heap.size 0 (pl P)/\w'.cell? ⟨w.heap.size,0,none⟩=some (.int .i64 P.1)) oM ⟨zac (Blk.drew KP),KP.cell 0⟩ (λhHeld=> ?_);refine tkl 0 rfl (yieldsIf_load_mid (by rfl) _ _ rfl _ _ rfl _ _ (λ_ h=>h.1) hu rfl Hb) hHeld ?_;refine wpAnyH_take (i:=1) (v:= ?_) rfl oM oM oM (λ_ _ _ h=>h) (.inl ⟨by rfl,?_⟩) hHeld ?_
 rotate_left
 ·rintro w ⟨s1,s2⟩;go_simp
  with_reducible rfl
 simp only[Act.put,getElem_toArray,getElem_cons_zero,getElem_cons_succ,setIfInBounds_toArray,set_cons_zero,set_cons_succ];refine wpAnyH_take (i:=2) (v:= ?_) rfl oM oM oM (λ_ _ _ h=>h) (.inl ⟨by rfl,?_⟩) hHeld ?_
 rotate_left
 ·rintro w ⟨s1,s2⟩;go_simp
  with_reducible rfl
 simp only[Act.put,getElem_toArray,getElem_cons_zero,getElem_cons_succ,setIfInBounds_toArray,set_cons_zero,set_cons_succ];refine tkl 4 rfl (yieldsIf_load_mid (by rfl) _ _ rfl _ _ rfl _ _ (λ_ h=>h.1) hu rfl Hb) hHeld ?_;refine rd 3 (λK hK=> ?_);go_simp
 go_at_call 234
 refine (HC _).mono ?_;rintro e w1 ⟨rfl,b1⟩;go_wp2_with fail;refine hK.out _ _ ⟨zac (Blk.keep (Blk.drew KP) b1),(Blk.keep (Blk.drew KP) b1).cell 0⟩ (λhHeld=> ?_);clear hK K;have HB:=kA (zad (zaa _ _) (zaH b1));clear b1;refine wpAnyH_take (i:=5) (v:= ?_) rfl oM oM oM (λ_ _ _ h=>h) (.inl ⟨by rfl,?_⟩) hHeld ?_
 rotate_left
 ·rintro w ⟨s1,s2⟩;go_simp
  with_reducible rfl
 simp only[Act.put,getElem_toArray,getElem_cons_zero,getElem_cons_succ,setIfInBounds_toArray,set_cons_zero,set_cons_succ];refine wpAnyH_take (i:=6) (v:= ?_) rfl oM oM oM (λ_ _ _ h=>h) (.inl ⟨by rfl,?_⟩) hHeld ?_
 rotate_left
 ·rintro w ⟨s1,s2⟩;go_simp
  with_reducible rfl
 simp only[Act.put,getElem_toArray,getElem_cons_zero,getElem_cons_succ,setIfInBounds_toArray,set_cons_zero,set_cons_succ];refine wpAnyH_done oM ?_ _;clear hHeld;go_wp2_with fail;go_ret;exact⟨rfl,HB⟩
theorem za6{ops:Array Oper}{rest:List Oper}{op:Oper}{a:Act}{Q:Exit->Act->World->Prop}(hw:Region.wanted op (yielded ops a.tmps)=true)(ty:TypeId)(x:Operand)(ho:op.op= .load ty x)
  (b o:Nat)(hx:a.eval x= .pointer (some ⟨b,o,none⟩))(cs:List Value)(d:TypeDesc)(hc:w.rangeAt b o cs)
  (hu:prog.underlying ty=some d)(hd:d.isRow=true)(hi:(prog.info? ty).map (·.size)=some cs.length)
  (h:wpList prog ops Q rest (a.put op.dst (.agg cs.toArray)) w):wpList prog ops Q (op::rest) a w:=by
 rw[wpList,if_pos hw];exact .inl (wp_load_mid ty x ho b o hx cs d hc hu hd hi h)
theorem zwj(h:Int)(M:Nat->Int)(m:Int)(B:Nat->Int)(p a:Int)(c:Bool)(l:Int)(w:World):
  Calls prog 176 #[.agg (PL h M m B p a c l).toArray] w λe w'=>e= .returned (.bool (zhv M m B p a l))/\Bw w w':=by
 unfold zhv;obtain⟨b1,h1⟩:∃b,okM M=b:=⟨_,rfl⟩;obtain⟨b2,h2⟩:∃b,inB m 255=b:=⟨_,rfl⟩;obtain⟨b3,h3⟩:∃b,zcm B=b:=⟨_,rfl⟩;obtain⟨b4,h4⟩:∃b,inB p 63=b:=⟨_,rfl⟩;obtain⟨b5,h5⟩:∃b,inB a 255=b:=⟨_,rfl⟩;obtain⟨b6,h6⟩:∃b,inB l 255=b:=⟨_,rfl⟩;have H1:=kA h1;have H2:=kA h2;have H3:=kA h3;have H4:=kA h4;have H5:=kA h5;have H6:=kA h6;rw[h1,h2,h3,h4,h5,h6];clear h1 h2 h3 h4 h5 h6;have dP:Hid (∀u g,Blk u g 52 (PL h M m B p a c l).toArray->u.rangeAt g 1 [.int .i64 (M 0),.int .i64 (M 1),.int .i64 (M 2),.int .i64 (M 3),.int .i64 (M 4),.int .i64 (M 5),.int .i64 (M 6),.int .i64 (M 7),.int .i64 (M 8),.int .i64 (M 9),.int .i64 (M 10),.int .i64 (M 11)]):=kA (λu g k=>zaF k 1 12);have H7:Hid (∀u g,Blk u g 52 (PL h M m B p a c l).toArray->u.rangeAt g 14 [.int .i64 (B 0),.int .i64 (B 1),.int .i64 (B 2),.int .i64 (B 3),.int .i64 (B 4),.int .i64 (B 5)]):=kA (λu g k=>zaF k 14 6);have HC:Hid (∀u g,Blk u g 52 (PL h M m B p a c l).toArray->u.cell? ⟨g,13,none⟩=some (.int .i64 m)/\u.cell? ⟨g,20,none⟩=some (.int .i64 p)/\u.cell? ⟨g,21,none⟩=some (.int .i64 a)/\u.cell? ⟨g,23,none⟩=some (.int .i64 l)):=kA (λu g k=>⟨k.cell 13,k.cell 20,k.cell 21,k.cell 23⟩);have D6:Hid ((prog.info? 46).map (·.size)=some ([.int .i64 (M 0),.int .i64 (M 1),.int .i64 (M 2),.int .i64 (M 3),.int .i64 (M 4),.int .i64 (M 5),.int .i64 (M 6),.int .i64 (M 7),.int .i64 (M 8),.int .i64 (M 9),.int .i64 (M 10),.int .i64 (M 11)]:List Value).length):=kA oM;have Dr:Hid ((prog.info? 50).map (·.size)=some ([.int .i64 (B 0),.int .i64 (B 1),.int .i64 (B 2),.int .i64 (B 3),.int .i64 (B 4),.int .i64 (B 5)]:List Value).length):=kA oM;obtain⟨X,hX⟩:∃X,X=PL h M m B p a c l:=⟨_,rfl⟩;rw[<-hX]at dP H7 HC;rw[<-hX];clear hX;have KP:=kA (Blk.new w 52 X.toArray);go_enter func176,ntmps176;go_wp2_with (refine wpList_load_mid rfl 46 (.tmp 3) rfl w.heap.size 1 rfl [.int .i64 (M 0),.int .i64 (M 1),.int .i64 (M 2),.int .i64 (M 3),.int .i64 (M 4),.int .i64 (M 5),.int .i64 (M 6),.int .i64 (M 7),.int .i64 (M 8),.int .i64 (M 9),.int .i64 (M 10),.int .i64 (M 11)] _ (dP _ _ KP) underlying46 rfl D6 ?_);refine (zim H1 (zbe (Blk.new _ _ _) (by simp))).mono ?_;rintro e w1 ⟨rfl,k1⟩;replace KP:=kA ((KP.alloc _).keep k1);have HB:=kA (zad (zag (zaa _ _) _) k1);clear k1 H1
 cases b1 with
 | false=>
  go_wp2;go_ret;exact⟨rfl,HB⟩
 | true=>
  obtain⟨c13,c20,c21,jw⟩:=HC.out _ _ KP;have z:=KP.lt;go_wp2_with fail;refine (zmK H2 _).mono ?_;rintro e w2 ⟨rfl,rfl⟩;clear H2
  cases b2 with
  | false=>
   go_wp2;go_ret;exact⟨rfl,HB⟩
  | true=>
   go_wp2_with (refine za6 (by rfl) 50 (.tmp 13) rfl w.heap.size 14 rfl [.int .i64 (B 0),.int .i64 (B 1),.int .i64 (B 2),.int .i64 (B 3),.int .i64 (B 4),.int .i64 (B 5)] _ (H7 _ _ KP) underlying50 rfl Dr ?_);refine (zis H3 (Blk.new _ _ _)).mono ?_;rintro e w3 ⟨rfl,k3⟩;replace KP:=kA ((KP.alloc _).keep k3);replace HB:=kA (zad (zag HB _) k3);clear k3 c13 c20 c21 jw z H3;obtain⟨c13,c20,c21,jw⟩:=HC.out _ _ KP;have z:=KP.lt
   cases b3 with
   | false=>
    go_wp2;go_ret;exact⟨rfl,HB⟩
   | true=>
    go_wp2_with fail;refine (zmK H4 _).mono ?_;rintro e w4 ⟨rfl,rfl⟩;clear H4
    cases b4 with
    | false=>
     go_wp2;go_ret;exact⟨rfl,HB⟩
    | true=>
     go_wp2_with fail;refine (zmK H5 _).mono ?_;rintro e w5 ⟨rfl,rfl⟩;clear H5
     cases b5 with
     | false=>
      go_wp2;go_ret;exact⟨rfl,HB⟩
     | true=>
      go_wp2_with fail;refine (zmK H6 _).mono ?_;rintro e w6 ⟨rfl,rfl⟩;clear H6;go_wp2;go_ret;exact⟨by simp,HB⟩
theorem valT(h:zzI P=b)(w:World):Calls prog 176 #[.agg (pl P).toArray] w λe w'=>e= .returned (.bool b)/\Bw w w':=by
 subst h;exact zwj _ _ _ _ _ _ _ _ w
theorem zzL(h:zjH P=b)(w:World):Calls prog 177 #[.agg (pl P).toArray] w λe w'=>e= .returned (.bool b)/\Bw w w':=by
 subst h;exact zs8 P w
theorem zon(P:PT)(w:World):
  Calls prog 110 #[.agg (pl P).toArray] w λe w'=>e= .returned (.bool (zaz P))/\Bw w w':=by
 rw[zgy];obtain⟨b1,h1⟩:∃b,zzI P=b:=⟨_,rfl⟩;obtain⟨b2,h2⟩:∃b,zjH P=b:=⟨_,rfl⟩;have H1:=kA h1;have H2:=kA h2;rw[h1,h2];clear h1 h2;have KP:=kA (Blk.new w 52 (pl P).toArray);have Hb:=kA (zaJ P);go_enter func110,ntmps110;go_wp2_with (refine wpList_load_mid rfl 52 (.tmp 1) rfl w.heap.size 0 rfl (pl P) _ (zac KP) underlying52 rfl Hb ?_);refine (valT H1 _).mono ?_;rintro e w1 ⟨rfl,k1⟩;replace KP:=kA (KP.keep k1);have HB:=kA (zad (zaa _ _) k1);clear k1 H1
 cases b1 with
 | false=>
  go_wp2;go_ret;exact⟨rfl,HB⟩
 | true=>
  go_wp2_with (refine za6 (by rfl) 52 (.tmp 1) rfl w.heap.size 0 rfl (pl P) _ (zac KP) underlying52 rfl Hb ?_);refine (zzL H2 _).mono ?_;rintro e w2 ⟨rfl,k2⟩;replace HB:=kA (zad HB k2);clear k2 H2;go_wp2;go_ret;exact⟨by simp,HB⟩
theorem zek(h:zaz P=b)(w:World):Calls prog 110 #[.agg (pl P).toArray] w λe w'=>e= .returned (.bool b)/\Bw w w':=by
 subst h;exact zon P w
theorem zp8(h:zcv s ks=true):zd8 ks=true:=by
 cases c:zd8 ks with
 | true=>rfl
 | false=>rw[zjG c]at h;cases h
theorem zp9(P Q:PT)(a:Option Addr)(len cap:Nat)(ks:List Int)(w:World)(row:Row w a len ks):
  Calls prog 164 #[.agg (pl P).toArray,.agg (pl Q).toArray,.slice a len cap] w λe w'=>e= .returned (.tuple #[.agg (pl (zeC P Q ks)).toArray,.int .i64 (zfV P Q ks)])/\Bw w w':=by
 have hJ:=kA row;clear row;obtain⟨b1,h1⟩:∃b,zaz P=b:=⟨_,rfl⟩;obtain⟨b2,h2⟩:∃b,zaz Q=b:=⟨_,rfl⟩;obtain⟨b3,h3⟩:∃b,zcv Q.1 ks=b:=⟨_,rfl⟩;have H1:=kA h1;have H2:=kA h2;have H3:=kA h3;have dJ:Hid (zfG P Q ks=(b1 && b2 && b3)):=kA (by unfold zfG;rw[h1,h2,h3]);clear h1 h2 h3;have zO:=kA (zbL zT);have zP:=kA (zc8 zT);have zQ:=kA (zcu zT);have D7:=kA (zaJ P);have ZU:=kA (zaJ Q);have KP:=kA (((Blk.new w 52 (pl P).toArray).alloc (.cells (pl Q).toArray 52)).alloc (.cells (pl zT).toArray 52));have KQ:=kA (zbe ((Blk.new (w.alloc (.cells (pl P).toArray 52)) 52 (pl Q).toArray).alloc (.cells (pl zT).toArray 52)) (g':=w.heap.size+1) (by simp));have KR:=kA (zbe (Blk.new ((w.alloc (.cells (pl P).toArray 52)).alloc (.cells (pl Q).toArray 52)) 52 (pl zT).toArray) (g':=w.heap.size+1+1) (by simp));go_enter func164,ntmps164;go_wp2_with (refine wpList_load_mid rfl 52 (.tmp 3) rfl w.heap.size 0 rfl (pl P) _ (zac KP) underlying52 rfl D7 ?_);refine (zek H1 _).mono ?_;rintro e w1 ⟨rfl,k1⟩;replace KP:=kA (KP.keep k1);replace KQ:=kA (KQ.keep k1);replace KR:=kA (KR.keep k1);have HB:=kA (zad (zag (zag (zaa _ _) _) _) k1);replace hJ:=kA (zar hJ HB);clear k1
 cases b1 with
 | false=>
  have Hm:=kA (zlf (P:=P) (Q:=Q) (ks:=ks) (by rw[dJ.out];rfl));go_wp2_with (refine wpList_store_mid rfl 52 (.tmp 6) (.tmp 23) rfl (w.heap.size+1+1) 0 (pl zT).toArray rfl rfl (zae KR.out (by simp[zQ.out])) zO.out zP.out ?_);have KW:=kA (zao (X:=pl zT) (Z:=pl zT) rfl ▸ zaf (pl zT) KR.out om);refine fin (λW=>Blk W (w.heap.size+1+1) 52 (pl zT).toArray/\Bw w W) ⟨KW.out,zab _ HB.out om⟩ ?_;rintro W ⟨kr,hb⟩;have hl:=run_loadVar_mid W (w.heap.size+1+1) 0 52 (pl zT) _ (zac kr) underlying52 rfl (zaJ zT);exact bodyPost_ret (v:= .tuple #[.agg (pl zT).toArray,.int .i64 1]) (zan results164 rfl rfl hl) rfl ⟨by rw[Hm.out.1,Hm.out.2],hb⟩
 | true=>
  go_wp2_with (refine za6 (by rfl) 52 (.tmp 4) rfl (w.heap.size+1) 0 rfl (pl Q) _ (zac KQ) underlying52 rfl ZU ?_);refine (zek H2 _).mono ?_;rintro e w2 ⟨rfl,k2⟩;replace KP:=kA (KP.keep k2);replace KQ:=kA (KQ.keep k2);replace KR:=kA (KR.keep k2);replace HB:=kA (zad HB k2);replace hJ:=kA (zar hJ k2);clear k2
  cases b2 with
  | false=>
   have Hm:=kA (zlf (P:=P) (Q:=Q) (ks:=ks) (by rw[dJ.out];rfl));go_wp2_with (refine wpList_store_mid rfl 52 (.tmp 6) (.tmp 23) rfl (w.heap.size+1+1) 0 (pl zT).toArray rfl rfl (zae KR.out (by simp[zQ.out])) zO.out zP.out ?_);have KW:=kA (zao (X:=pl zT) (Z:=pl zT) rfl ▸ zaf (pl zT) KR.out om);refine fin (λW=>Blk W (w.heap.size+1+1) 52 (pl zT).toArray/\Bw w W) ⟨KW.out,zab _ HB.out om⟩ ?_;rintro W ⟨kr,hb⟩;have hl:=run_loadVar_mid W (w.heap.size+1+1) 0 52 (pl zT) _ (zac kr) underlying52 rfl (zaJ zT);exact bodyPost_ret (v:= .tuple #[.agg (pl zT).toArray,.int .i64 1]) (zan results164 rfl rfl hl) rfl ⟨by rw[Hm.out.1,Hm.out.2],hb⟩
  | true=>
   have cq:w2.cell? ⟨w.heap.size+1,0,none⟩=some (.int .i64 Q.1):=KQ.cell 0;have zq:=KQ.lt;go_wp2_with fail;refine (zu5 H3 _ _ _ _ hJ).mono ?_;rintro e w3 ⟨rfl,rfl⟩;clear cq zq
   cases b3 with
   | false=>
    have Hm:=kA (zlf (P:=P) (Q:=Q) (ks:=ks) (by rw[dJ.out];rfl));go_wp2_with (refine wpList_store_mid rfl 52 (.tmp 6) (.tmp 23) rfl (w.heap.size+1+1) 0 (pl zT).toArray rfl rfl (zae KR.out (by simp[zQ.out])) zO.out zP.out ?_);have KW:=kA (zao (X:=pl zT) (Z:=pl zT) rfl ▸ zaf (pl zT) KR.out om);refine fin (λW=>Blk W (w.heap.size+1+1) 52 (pl zT).toArray/\Bw w W) ⟨KW.out,zab _ HB.out om⟩ ?_;rintro W ⟨kr,hb⟩;have hl:=run_loadVar_mid W (w.heap.size+1+1) 0 52 (pl zT) _ (zac kr) underlying52 rfl (zaJ zT);exact bodyPost_ret (v:= .tuple #[.agg (pl zT).toArray,.int .i64 1]) (zan results164 rfl rfl hl) rfl ⟨by rw[Hm.out.1,Hm.out.2],hb⟩
   | true=>
    have Hn:=kA (zsX (P:=P) (Q:=Q) (ks:=ks) (by rw[dJ.out];rfl));go_wp2_with (first | refine wpList_load_mid rfl 52 (.tmp 3) rfl w.heap.size 0 rfl (pl P) _ (zac KP) underlying52 rfl D7 ?_ | refine wpList_load_mid rfl 52 (.tmp 4) rfl (w.heap.size+1) 0 rfl (pl Q) _ (zac KQ) underlying52 rfl ZU ?_)
    refine (zp4 P Q _ _ _ ks _ (zcI H1.out) (zp8 H3.out) hJ.out).mono ?_;rintro e w4 ⟨rfl,k4⟩;replace KP:=kA (KP.out.keep k4);replace KQ:=kA (KQ.out.keep k4);replace KR:=kA (KR.out.keep k4);replace HB:=kA (zad HB.out k4);clear k4 hJ;obtain⟨R,hR⟩:∃R,R=zfU P Q ks:=⟨_,rfl⟩;rw[<-hR]at Hn;rw[<-hR];clear hR;have cY:=kA (zao (X:=pl R) (Z:=pl zT) rfl ▸ zaf (pl R) KR.out (by simp[zcu]));go_wp2_with (refine wpList_store_mid rfl 52 (.tmp 6) (.tmp 27) rfl (w.heap.size+1+1) 0 (pl R).toArray rfl rfl (zae KR.out (by simp[zcu])) (zbL _) (zc8 _) ?_);refine fin (λW=>Blk W (w.heap.size+1+1) 52 (pl R).toArray/\Bw w W) ⟨cY.out,zab _ HB.out om⟩ ?_;rintro W ⟨kr,hb⟩;have hl:=run_loadVar_mid W (w.heap.size+1+1) 0 52 (pl R) _ (zac kr) underlying52 rfl (zaJ R);exact bodyPost_ret (v:= .tuple #[.agg (pl R).toArray,.int .i64 0]) (zan results164 rfl rfl hl) rfl ⟨by rw[Hn.out.1,Hn.out.2],hb⟩
def zyl(P:PT)(ks:List Int):PT:=zcQ (bits .andNot .i64 P.1 (ksS ks)) P
def zeE(P:PT)(ks:List Int):PT:=if zeD P ks then zyl P ks else zT
theorem zqa(P:PT)(a:Option Addr)(len cap:Nat)(ks:List Int)(w:World)(row:Row w a len ks):
  Calls prog 166 #[.agg (pl P).toArray,.slice a len cap] w λe w'=>e= .returned (.tuple #[.agg (pl (zeE P ks)).toArray,.int .i64 (zeh P ks)])/\Bw w w':=by
 have hJ:=kA row;clear row;obtain⟨b1,h1⟩:∃b,zaz P=b:=⟨_,rfl⟩;obtain⟨b2,h2⟩:∃b,zd8 ks=b:=⟨_,rfl⟩;have H1:=kA h1;have dJ:Hid (zeD P ks=(b1 && b2)):=kA (by unfold zeD;rw[h1,h2]);have C6:Hid (ksV ks=(if b2 then ksS ks else 0)/\ksE ks=(if b2 then 0 else 1)):=kA (by unfold ksV ksE;rw[h2];exact⟨rfl,rfl⟩)
 clear h1 h2;have zO:=kA (zbL zT);have zP:=kA (zc8 zT);have zQ:=kA (zcu zT);have D7:=kA (zaJ P);have KP:=kA ((Blk.new w 52 (pl P).toArray).alloc (.cells (pl zT).toArray 52));have KR:=kA (zbe (Blk.new (w.alloc (.cells (pl P).toArray 52)) 52 (pl zT).toArray) (g':=w.heap.size+1) (by simp));have HB:=kA (zag (zaa w (.cells (pl P).toArray 52)) (.cells (pl zT).toArray 52));replace hJ:=kA (zar hJ HB);go_enter func166,ntmps166;go_wp2_with fail;refine (zli _ _ _ ks _ hJ).mono ?_;rintro e w1 ⟨rfl,rfl⟩;rw[C6.1,C6.2];clear C6
 cases b2 with
 | false=>
  have Hm:Hid (zeh P ks=1/\zeE P ks=zT):=kA (by unfold zeh zeE;rw[dJ.out];cases b1 <;> exact⟨rfl,rfl⟩)
  simp only[if_neg Bool.false_ne_true];go_wp2_with (refine wpList_store_mid rfl 52 (.tmp 4) (.tmp 20) rfl (w.heap.size+1) 0 (pl zT).toArray rfl rfl (zae KR.out (by simp[zQ.out])) zO.out zP.out ?_);have KW:=kA (zao (X:=pl zT) (Z:=pl zT) rfl ▸ zaf (pl zT) KR.out om);refine fin (λW=>Blk W (w.heap.size+1) 52 (pl zT).toArray/\Bw w W) ⟨KW.out,zab _ HB.out om⟩ ?_;rintro W ⟨kr,hb⟩;have hl:=run_loadVar_mid W (w.heap.size+1) 0 52 (pl zT) _ (zac kr) underlying52 rfl (zaJ zT);exact bodyPost_ret (v:= .tuple #[.agg (pl zT).toArray,.int .i64 1]) (zan results166 rfl rfl hl) rfl ⟨by rw[Hm.out.1,Hm.out.2],hb⟩
 | true=>
  simp only[if_true];obtain⟨t,ht⟩:∃t,t=ksS ks:=⟨_,rfl⟩;rw[<-ht];have HT:=kA ht;clear ht;go_wp2_with (refine za6 (by rfl) 52 (.tmp 2) rfl w.heap.size 0 rfl (pl P) _ (zac KP) underlying52 rfl D7 ?_);refine (zek H1 _).mono ?_;rintro e w2 ⟨rfl,k2⟩;replace KP:=kA (KP.keep k2);replace KR:=kA (KR.keep k2);replace HB:=kA (zad HB k2);clear k2 hJ
  cases b1 with
  | false=>
   have Hm:Hid (zeh P ks=1/\zeE P ks=zT):=kA (by unfold zeh zeE;rw[dJ.out];exact⟨rfl,rfl⟩);go_wp2_with (refine wpList_store_mid rfl 52 (.tmp 4) (.tmp 20) rfl (w.heap.size+1) 0 (pl zT).toArray rfl rfl (zae KR.out (by simp[zQ.out])) zO.out zP.out ?_);have KW:=kA (zao (X:=pl zT) (Z:=pl zT) rfl ▸ zaf (pl zT) KR.out om);refine fin (λW=>Blk W (w.heap.size+1) 52 (pl zT).toArray/\Bw w W) ⟨KW.out,zab _ HB.out om⟩ ?_;rintro W ⟨kr,hb⟩;have hl:=run_loadVar_mid W (w.heap.size+1) 0 52 (pl zT) _ (zac kr) underlying52 rfl (zaJ zT);exact bodyPost_ret (v:= .tuple #[.agg (pl zT).toArray,.int .i64 1]) (zan results166 rfl rfl hl) rfl ⟨by rw[Hm.out.1,Hm.out.2],hb⟩
  | true=>
   have Hn:Hid (zeh P ks=0/\zeE P ks=zcQ (bits .andNot .i64 P.1 t) P):=kA (by unfold zeh zeE zyl;rw[dJ.out,HT.out];exact⟨rfl,rfl⟩);have J2:=kA (zmR P (bits .andNot .i64 P.1 t));obtain⟨R,hR⟩:∃R,R=zcQ (bits .andNot .i64 P.1 t) P:=⟨_,rfl⟩;rw[<-hR]at Hn J2;clear hR;have cp:w2.cell? ⟨w.heap.size,0,none⟩=some (.int .i64 P.1):=KP.out.cell 0;have zp:=KP.out.lt;go_wp2_with (refine wpList_load_mid rfl 52 (.tmp 2) rfl w.heap.size 0 rfl (pl P) _ (zac KP.out) underlying52 rfl D7.out ?_);refine (J2.out _).mono ?_;rintro e w4 ⟨rfl,k4⟩;replace KP:=kA (KP.out.keep k4);replace KR:=kA (KR.out.keep k4);replace HB:=kA (zad HB.out k4);clear k4 cp zp J2;have cY:=kA (zao (X:=pl R) (Z:=pl zT) rfl ▸ zaf (pl R) KR.out (by simp[zcu]));go_wp2_with (refine wpList_store_mid rfl 52 (.tmp 4) (.tmp 26) rfl (w.heap.size+1) 0 (pl R).toArray rfl rfl (zae KR.out (by simp[zcu])) (zbL _) (zc8 _) ?_);refine fin (λW=>Blk W (w.heap.size+1) 52 (pl R).toArray/\Bw w W) ⟨cY.out,zab _ HB.out om⟩ ?_;rintro W ⟨kr,hb⟩;have hl:=run_loadVar_mid W (w.heap.size+1) 0 52 (pl R) _ (zac kr) underlying52 rfl (zaJ R);exact bodyPost_ret (v:= .tuple #[.agg (pl R).toArray,.int .i64 0]) (zan results166 rfl rfl hl) rfl ⟨by rw[Hn.out.1,Hn.out.2],hb⟩
theorem has3(s:Int):zcv s [0,1,2]=decide (s % 8=7):=by
 unfold zcv;have h0:zcl s 0=decide (s % 2=1):=by rw[show zcl s 0=zaV s 0 from zcq (k:=0) om];unfold zaV;simp
 have h1:zcl s 1=decide (s / 2 % 2=1):=by rw[show zcl s 1=zaV s 1 from zcq (k:=1) om];unfold zaV;simp
 have h2:zcl s 2=decide (s / 4 % 2=1):=by rw[show zcl s 2=zaV s 2 from zcq (k:=2) om];unfold zaV;simp
 simp only[all_cons,all_nil,h0,h1,h2,Bool.and_true];rw[Bool.eq_iff_iff];simp only[Bool.and_eq_true,decide_eq_true_eq];omega
def zdJ(P:PT):Bool:=zaz P && decide (P.1 % 8=7)
theorem zoo(P:PT)(w:World):
  Calls prog 215 #[.agg (pl P).toArray] w λe w'=>e= .returned (.bool (zdJ P))/\Bw w w':=by
 unfold zdJ;obtain⟨b1,h1⟩:∃b,zaz P=b:=⟨_,rfl⟩;obtain⟨b2,h2⟩:∃b,decide (P.1 % 8=7)=b:=⟨_,rfl⟩;have H1:=kA h1;have H2:=kA ((has3 P.1).trans h2);rw[h1,h2];clear h1 h2;have KP:=kA (Blk.new w 52 (pl P).toArray);have D7:=kA (zaJ P);go_enter func215,ntmps215;go_wp2_with (refine wpList_load_mid rfl 52 (.tmp 1) rfl w.heap.size 0 rfl (pl P) _ (zac KP) underlying52 rfl D7 ?_);refine (zek H1 _).mono ?_;rintro e w1 ⟨rfl,k1⟩;replace KP:=kA (KP.keep k1);have HB:=kA (zad (zaa _ _) k1);clear k1 H1
 cases b1 with
 | false=>
  go_wp2;go_ret;exact⟨rfl,HB⟩
 | true=>
  have cp:w1.cell? ⟨w.heap.size,0,none⟩=some (.int .i64 P.1):=KP.cell 0;have zp:=KP.lt;go_wp2_with fail;refine (zu5 H2 _ _ _ _ (zzw (Blk.new w1 _ _))).mono ?_;rintro e w2 ⟨rfl,rfl⟩;replace HB:=kA (zag HB (.cells #[.int .i64 0,.int .i64 1,.int .i64 2] 244));go_wp2;go_ret;exact⟨by simp,HB⟩
theorem zym(h:eqT P Q=true):pl P=pl Q:=by
 obtain⟨h1,M,m,B,p,a,c,l⟩:=P;obtain⟨h2,N,n,C,q,b,d,k⟩:=Q;unfold eqT eqP zv5 eq6 at h;simp only[Bool.and_eq_true,beq_iff_eq]at h;obtain⟨⟨⟨⟨⟨⟨⟨e1,⟨⟨⟨⟨⟨⟨⟨⟨⟨⟨⟨m0,m1⟩,m2⟩,m3⟩,m4⟩,m5⟩,m6⟩,m7⟩,m8⟩,m9⟩,m10⟩,m11⟩⟩,e2⟩,⟨⟨b0,b1⟩,b2⟩,⟨b3,b4⟩,b5⟩,e3⟩,e4⟩,e5⟩,e6⟩:=h;unfold pl PL;simp only[e1,m0,m1,m2,m3,m4,m5,m6,m7,m8,m9,m10,m11,e2,b0,b1,b2,b3,b4,b5,e3,e4,e5,e6]
theorem zwk(h:pl P=pl Q):P.1=Q.1:=by
 unfold pl PL at h;simp only[List.cons.injEq,Value.int.injEq,true_and]at h;exact h.1
theorem zhP(h:zaz P=true):pl (zcQ P.1 P)=pl P:=by
 rw[zgy,Bool.and_eq_true]at h;exact zym h.2
theorem zls(h:pl P=pl Q)(k:Int):pl (zhw P k)=pl (zhw Q k):=by
 have e:∀P:PT,pl (zhw P k)=zzH k ((pl P).set 0 (.int .i64 (zjp P.1 k))) (pl zT):=λP=>by unfold zhw;rw[<-zv7];rfl
 rw[e,e,h,zwk h]
theorem zgC:∀ (ks:List Int) {P Q:PT},pl P=pl Q->pl (zjE P ks)=pl (zjE Q ks)
 | [],_,_,h=>h
 | k::r,_,_,h=>zgC r (zls h k)
theorem zqb(P:PT)(hs:0<=s/\s<=31)(hk:kOk k=true):zhw (zcQ s P) k=zcQ (zjp s k) P:=by
 have hb:=zc9 (k:=k) hs;have e1:s % 32=s:=om;have e2:zjp s k % 32=zjp s k:=om;have f0:=zcV hs hk (j:=0) om;have f1:=zcV hs hk (j:=1) om;have f2:=zcV hs hk (j:=2) om;have f3:=zcV hs hk (j:=3) om;unfold zcQ;rw[f0,f1,f2,f3,e2];unfold zhw;rw[e1];clear f0 f1 f2 f3 e1 e2 hb hs;generalize zaV s 0=a0;generalize zaV s 1=a1;generalize zaV s 2=a2;generalize zaV s 3=a3;rcases zbf hk with rfl | rfl | rfl | rfl | rfl
 ·cases a0 <;> cases a1 <;> cases a2 <;> cases a3 <;> rfl
 ·cases a0 <;> cases a1 <;> cases a2 <;> cases a3 <;> rfl
 ·cases a0 <;> cases a1 <;> cases a2 <;> cases a3 <;> rfl
 ·cases a0 <;> cases a1 <;> cases a2 <;> cases a3 <;> rfl
 ·cases a0 <;> cases a1 <;> cases a2 <;> cases a3 <;> rfl
theorem zjM:∀ (ks:List Int) (s:Int) (P:PT),0<=s/\s<=31->zd8 ks=true->zjE (zcQ s P) ks=zcQ (ks.foldl zjp s) P
 | [],_,_,_,_=>rfl
 | k::r,s,P,hs,h=>by
  unfold zd8 at h;rw[all_cons,Bool.and_eq_true]at h;have:zjE (zcQ s P) (k::r)=zjE (zhw (zcQ s P) k) r:=rfl;rw[this,zqb P hs h.1,zjM r _ P (zc9 hs) h.2];rfl
theorem zwl(hs:0<=s/\s<=31)(h:zd8 ks=true):ks.foldl zjp s=bits .andNot .i64 s (ksS ks):=
 zwe (zjF ks s hs) (zpY hs (zgw h)) (λj hj=>by rw[zmJ ks s hs h hj,zwd hs (zgw h) hj,zlh h hj])
theorem zqc(hr:zaz P=true)(h:zd8 ks=true):pl (zjE P ks)=pl (zcQ (ks.foldl zjp P.1) P):=by
 rw[<-zgC ks (zhP hr),zjM ks P.1 P (zcI hr) h]
theorem zqd(P:PT)(ks:List Int):pl (zeE P ks)=pl (zfW P ks):=by
 unfold zeE zfW
 by_cases c:zeD P ks=true
 ·rw[if_pos c,if_pos c];unfold zeD at c;rw[Bool.and_eq_true]at c;rw[zqc c.1 c.2,zwl (zcI c.1) c.2];rfl
 ·rw[if_neg c,if_neg c]
theorem zyn(P:PT)(a:Option Addr)(len cap:Nat)(ks:List Int)(w:World)(row:Row w a len ks):
  Calls prog 166 #[.agg (pl P).toArray,.slice a len cap] w λe w'=>e= .returned (.tuple #[.agg (pl (zfW P ks)).toArray,.int .i64 (zeh P ks)])/\Bw w w':=by
 have:=zqa P a len cap ks w row;rw[zqd]at this;exact this
theorem zop(hp:zaz P=true)(hq:zaz Q=true)(hk:zcl Q.1 k=true):zaz (zsW Q P k)=true:=by
 have hb:=zcI hp;have H8:=zip hk;have Kh:=zd2 hb H8;have f0:=zfj hb H8 (j:=0) om;have f1:=zfj hb H8 (j:=1) om;have f2:=zfj hb H8 (j:=2) om;have f3:=zfj hb H8 (j:=3) om;have f4:=zfj hb H8 (j:=4) om;obtain⟨h,M,m,B,p,a,c,l⟩:=P;obtain⟨h2,N,n,C,q,b,d,k2⟩:=Q;unfold zaz zeB zfF zgu zhv at hp hq;simp only[Bool.and_eq_true]at hp hq;obtain⟨⟨_,⟨⟨⟨k0,k1⟩,k2⟩,k3⟩,k4⟩,⟨⟨⟨⟨r0,r1⟩,r2⟩,r3⟩,r4⟩,r5⟩:=hp;obtain⟨⟨_,⟨⟨⟨_,_⟩,_⟩,_⟩,_⟩,⟨⟨⟨⟨q0,q1⟩,q2⟩,q3⟩,q4⟩,q5⟩:=hq;unfold zaz zeB zfF zgu zhv zsW;simp only[Bool.and_eq_true,decide_eq_true Kh.1,decide_eq_true Kh.2];clear Kh hb hk;rcases zbf H8 with rfl | rfl | rfl | rfl | rfl
 ·exact⟨⟨⟨trivial,trivial⟩,⟨⟨⟨by rw[f0];simp,by rw[f1];simpa[zcP,zkB] using k1⟩,by rw[f2];simpa[zcP,zkB] using k2⟩,by rw[f3];simpa[zcP,zkB] using k3⟩,by simp[zkB]⟩,⟨⟨⟨⟨q0,r1⟩,r2⟩,r3⟩,r4⟩,r5⟩
 ·exact⟨⟨⟨trivial,trivial⟩,⟨⟨⟨by rw[f0];simpa[zcP,zkB] using k0,by rw[f1];simp⟩,by rw[f2];simpa[zcP,zkB] using k2⟩,by rw[f3];simpa[zcP,zkB] using k3⟩,by simp[zkB]⟩,⟨⟨⟨⟨r0,q1⟩,q2⟩,r3⟩,r4⟩,r5⟩
 ·exact⟨⟨⟨trivial,trivial⟩,⟨⟨⟨by rw[f0];simpa[zcP,zkB] using k0,by rw[f1];simpa[zcP,zkB] using k1⟩,by rw[f2];simp⟩,by rw[f3];simpa[zcP,zkB] using k3⟩,by simp[zkB]⟩,⟨⟨⟨⟨r0,r1⟩,r2⟩,q3⟩,q4⟩,r5⟩
 ·exact⟨⟨⟨trivial,trivial⟩,⟨⟨⟨by rw[f0];simpa[zcP,zkB] using k0,by rw[f1];simpa[zcP,zkB] using k1⟩,by rw[f2];simpa[zcP,zkB] using k2⟩,by rw[f3];simp⟩,by simp[zkB]⟩,⟨⟨⟨⟨r0,r1⟩,r2⟩,r3⟩,r4⟩,q5⟩
 ·exact⟨⟨⟨trivial,trivial⟩,⟨⟨⟨by rw[f0];simpa[zcP,zkB] using k0,by rw[f1];simpa[zcP,zkB] using k1⟩,by rw[f2];simpa[zcP,zkB] using k2⟩,by rw[f3];simpa[zcP,zkB] using k3⟩,by rw[f4];simp⟩,⟨⟨⟨⟨r0,r1⟩,r2⟩,r3⟩,r4⟩,r5⟩
theorem zhQ:∀ (ks:List Int) {P Q:PT},zaz P=true->zaz Q=true->zcv Q.1 ks=true->zaz (zfU P Q ks)=true
 | [],_,_,hp,_,_=>hp
 | k::r,P,Q,hp,hq,h=>by
  unfold zcv at h;rw[all_cons,Bool.and_eq_true]at h;exact zhQ r (zop hp hq h.1) hq h.2
theorem zzM:okM zI=true:=by decide
theorem zwm:zcm zI=true:=by decide
theorem zqe(hp:zaz P=true)(H8:kOk k=true):zaz (zhw P k)=true:=by
 have hb:=zcI hp;have Kh:=zc9 (k:=k) hb;have f0:=zcV hb H8 (j:=0) om;have f1:=zcV hb H8 (j:=1) om;have f2:=zcV hb H8 (j:=2) om;have f3:=zcV hb H8 (j:=3) om;have f4:=zcV hb H8 (j:=4) om;obtain⟨h,M,m,B,p,a,c,l⟩:=P;unfold zaz zeB zfF zgu zhv at hp;simp only[Bool.and_eq_true]at hp;obtain⟨⟨_,⟨⟨⟨k0,k1⟩,k2⟩,k3⟩,k4⟩,⟨⟨⟨⟨r0,r1⟩,r2⟩,r3⟩,r4⟩,r5⟩:=hp;have z12:=zgt zI;have z6:=zio zI;have zM:=zzM;have zB:=zwm;have hd:=zmH k (zjp h k,M,m,B,p,a,c,l) zT;unfold zaz zeB zfF zgu zhv zhw;rw[hd];simp only[Bool.and_eq_true,decide_eq_true Kh.1,decide_eq_true Kh.2];clear Kh hb hd;rcases zbf H8 with rfl | rfl | rfl | rfl | rfl
 ·exact⟨⟨⟨trivial,trivial⟩,⟨⟨⟨by simp[zcP,zT,zkB,z12],by rw[f1];simpa[zcP,zkB] using k1⟩,by rw[f2];simpa[zcP,zkB] using k2⟩,by rw[f3];simpa[zcP,zkB] using k3⟩,by simp[zkB]⟩,⟨⟨⟨⟨zM,r1⟩,r2⟩,r3⟩,r4⟩,r5⟩
 ·exact⟨⟨⟨trivial,trivial⟩,⟨⟨⟨by rw[f0];simpa[zcP,zkB] using k0,by simp[zcP,zT,zkB,z6]⟩,by rw[f2];simpa[zcP,zkB] using k2⟩,by rw[f3];simpa[zcP,zkB] using k3⟩,by simp[zkB]⟩,⟨⟨⟨⟨r0,rfl⟩,zB⟩,r3⟩,r4⟩,r5⟩
 ·exact⟨⟨⟨trivial,trivial⟩,⟨⟨⟨by rw[f0];simpa[zcP,zkB] using k0,by rw[f1];simpa[zcP,zkB] using k1⟩,by simp[zcP,zT,zkB]⟩,by rw[f3];simpa[zcP,zkB] using k3⟩,by simp[zkB]⟩,⟨⟨⟨⟨r0,r1⟩,r2⟩,rfl⟩,rfl⟩,r5⟩
 ·exact⟨⟨⟨trivial,trivial⟩,⟨⟨⟨by rw[f0];simpa[zcP,zkB] using k0,by rw[f1];simpa[zcP,zkB] using k1⟩,by rw[f2];simpa[zcP,zkB] using k2⟩,by simp[zcP,zT,zkB]⟩,by simp[zkB]⟩,⟨⟨⟨⟨r0,r1⟩,r2⟩,r3⟩,r4⟩,rfl⟩
 ·exact⟨⟨⟨trivial,trivial⟩,⟨⟨⟨by rw[f0];simpa[zcP,zkB] using k0,by rw[f1];simpa[zcP,zkB] using k1⟩,by rw[f2];simpa[zcP,zkB] using k2⟩,by rw[f3];simpa[zcP,zkB] using k3⟩,by simp[zkB]⟩,⟨⟨⟨⟨r0,r1⟩,r2⟩,r3⟩,r4⟩,r5⟩
theorem zhR:∀ (ks:List Int) {P:PT},zaz P=true->zd8 ks=true->zaz (zjE P ks)=true
 | [],_,hp,_=>hp
 | k::r,P,hp,h=>by
  unfold zd8 at h;rw[all_cons,Bool.and_eq_true]at h;exact zhR r (zqe hp h.1) h.2
def q6:PT:=(4,zI,0,zI,3,0,true,0)
def r6:PT:=(0,zI,0,zI,1,0,false,0)
end Go.Proofs.YtlibdcmcbinfnaaGreat
