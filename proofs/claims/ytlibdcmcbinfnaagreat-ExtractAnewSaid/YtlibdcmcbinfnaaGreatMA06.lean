/- Lemmas. -/
import Derived.Test.YtlibdcmcbinfnaaGreatMA05
set_option maxHeartbeats 100000000
set_option maxRecDepth 1000000
namespace Go.Proofs.YtlibdcmcbinfnaaGreat
open _root_.Go.Proofs.Tryz List Nat
open Go.RowKit
variable{x y k t s:Int}{e B:Nat->Int}{P Q:PT}{cap g:Nat}{w:World}{b:Bool}{ks:List Int}
theorem zmT(h:zk7 x≠0):zk7 x=6:=by
 unfold zk7 at h ⊢
 by_cases c:okB x=true
 ·rw[if_pos c]at h;exact absurd rfl h
 ·rw[if_neg c]
theorem zwn(x:Int):okB (zk6 x)=true:=by
 unfold zk6
 by_cases c:okB x=true
 ·rw[if_pos c];exact c
 ·rw[if_neg c];decide
theorem zmU(hx:okB x=true)(hy:okB y=true)(h:zed x y≠0):zed x y=6:=by
 have ho:(okB x && okB y)=true:=by rw[hx,hy];rfl
 rw[(zpB ho).2]at h ⊢;exact zmT h
theorem zqa(x y:Int):okB (zk2 x y)=true:=by
 by_cases ho:(okB x && okB y)=true
 ·rw[(zpB ho).1];exact zwn _
 ·rw[(zyd (by simpa using ho)).1];decide
theorem zjS(h:zc5 (e 0) (e 1) (e 2)≠0):∃k,k<3/\e k≠0/\zc5 (e 0) (e 1) (e 2)=e k:=by
 unfold zc5 at h ⊢
 by_cases h0:e 0=0
 ·rw[if_pos h0]at h ⊢
  by_cases h1:e 1=0
  ·rw[if_pos h1]at h ⊢;exact⟨2,om,h,rfl⟩
  ·rw[if_neg h1];exact⟨1,om,h1,rfl⟩
 ·rw[if_neg h0];exact⟨0,om,h0,rfl⟩
theorem zgF(h:zc5 (e 0) (e 1) (e 2)=0):∀k,k<3->e k=0:=by
 unfold zc5 at h
 by_cases h0:e 0=0
 ·rw[if_pos h0]at h
  by_cases h1:e 1=0
  ·rw[if_pos h1]at h;intro k hk;obtain rfl | rfl | rfl:k=0∨k=1∨k=2:=om
   ·exact h0
   ·exact h1
   ·exact h
  ·rw[if_neg h1]at h;exact absurd h h1
 ·rw[if_neg h0]at h;exact absurd h h0
theorem zfn{P:Nat->Int}(h:zei P=true){k:Nat}(hk:k<4):okB (P k)=true:=by
 unfold zei zaL at h;have h4:okB (P 0)=true/\okB (P 1)=true/\okB (P 2)=true/\okB (P 3)=true:=by simpa using h
 obtain rfl | rfl | rfl | rfl:k=0∨k=1∨k=2∨k=3:=om
 ·exact h4.1
 ·exact h4.2.1
 ·exact h4.2.2.1
 ·exact h4.2.2.2
def upB(B:Nat->Int)(j:Nat):Int:=B (3+j)
theorem zyq{P:Nat->Int}(h:zei P=true)(h':zcm B=true)(he:prE P B≠0):prE P B=6/\enE P B t=6:=by
 obtain⟨k,hk,hn,hq⟩:=zjS (e:=zpo P B) he;refine⟨hq.trans (zmU (zfn h om) (zmI h' om) hn),zpM (k:=k) ?_ hk⟩;unfold zgr;have:(zed (P k) (B k) != 0)=true:=by simpa using (show zed (P k) (B k)≠0 from hn)
 rw[this];rfl
theorem zyr{P:Nat->Int}(h:zei P=true)(h':zcm B=true)(he:prE P (upB B)≠0):prE P (upB B)=6/\enE P B t=6:=by
 obtain⟨k,hk,hn,hq⟩:=zjS (e:=zpo P (upB B)) he;refine⟨hq.trans (zmU (zfn h (by omega)) (zmI h' (by omega)) hn),zpM (k:=k) ?_ hk⟩;unfold zgr;have:(zed (P k) (B (3+k)) != 0)=true:=by simpa using (show zed (P k) (B (3+k))≠0 from hn)
 rw[this,Bool.or_true]
theorem zf8(a b:Int):bet zc7 a b=min a b:=by
 unfold bet zc7
 by_cases c:b<a
 ·rw[if_pos (by simpa using c)];omega
 ·rw[if_neg (by simpa using c)];omega
theorem ziu(a b:Int):bet zip a b=max a b:=by
 unfold bet zip
 by_cases c:b>a
 ·rw[if_pos (by simpa using c)];omega
 ·rw[if_neg (by simpa using c)];omega
theorem zmV(x y z t:Int):zio [x,y,z,t]=zio [t,x,y,z]/\zfk [x,y,z,t]=zfk [t,x,y,z]:=by
 have hs:[x,y,z,t].sum=[t,x,y,z].sum:=by simp only[sum_cons,sum_nil];omega
 have hr:zdI [x,y,z,t]=zdI [t,x,y,z]:=by
  unfold zdI zaL;simp only[all_cons,all_nil,length_cons,length_nil]
  cases okB x <;> cases okB y <;> cases okB z <;> cases okB t <;> rfl
 unfold zio zfk;rw[hs,hr];exact⟨rfl,rfl⟩
theorem zqb{z:Int}(hx:okB x=true)(hy:okB y=true)(hz:okB z=true)(ht:okB t=true)(h:zfk [x,y,z,t]≠0):zfk [x,y,z,t]=6:=by
 have ho:zdI [x,y,z,t]=true:=zgp rfl (by simp) (by unfold zaL;simp[hx,hy,hz,ht]);rw[zmD ho]at h ⊢;exact zmT h
theorem zlq(hx:okB x=true)(hy:okB y=true):okB (min x y)=true:=by
 obtain⟨a1,a2⟩:=zfj.1 hx;obtain⟨b1,b2⟩:=zfj.1 hy;exact zk5 om om
theorem zlr(hx:okB x=true)(hy:okB y=true):okB (max x y)=true:=by
 obtain⟨a1,a2⟩:=zfj.1 hx;obtain⟨b1,b2⟩:=zfj.1 hy;exact zk5 om om
theorem zwo{P:Nat->Int}(ht:okB t=true)(h1:prE P B=0)(h2:prE P (upB B)=0):
  ∃l0 l1 l2 g0 g1 g2,pk zc7 [(prV P B 0,prV P B 1,prV P B 2),(prV P (upB B) 0,prV P (upB B) 1,prV P (upB B) 2)]=(l0,l1,l2)/\pk zip [(prV P B 0,prV P B 1,prV P B 2),(prV P (upB B) 0,prV P (upB B) 1,prV P (upB B) 2)]=(g0,g1,g2)/\
   (zfk [l0,l1,l2,t]≠0->zfk [l0,l1,l2,t]=6/\enE P B t=6)/\(zfk [g0,g1,g2,t]≠0->zfk [g0,g1,g2,t]=6/\enE P B t=6)/\
   (zfk [l0,l1,l2,t]=0->zfk [g0,g1,g2,t]=0->enE P B t=0/\zv3 P B t=zio [l0,l1,l2,t]/\zv4 P B t=zio [g0,g1,g2,t]):=by
 have hb:zgr P B 0=false/\zgr P B 1=false/\zgr P B 2=false:=by
  have a:=zgF (e:=zpo P B) h1;have b:=zgF (e:=zpo P (upB B)) h2;have c:∀k,k<3->zgr P B k=false:=λk hk=>by
   unfold zgr;rw[show zed (P k) (B k)=0 from a k hk,show zed (P k) (B (3+k))=0 from b k hk];rfl
  exact⟨c 0 om,c 1 om,c 2 om⟩
 have v1:∀k,prV P B k=enX P B k:=λk=>by unfold prV;rw[h1];rfl
 have v2:∀k,prV P (upB B) k=enY P B k:=λk=>by unfold prV;rw[h2];rfl
 have el:zpK P B t=[t,min (enX P B 0) (enY P B 0),min (enX P B 1) (enY P B 1),min (enX P B 2) (enY P B 2)]:=rfl;have eh:zpL P B t=[t,max (enX P B 0) (enY P B 0),max (enX P B 1) (enY P B 1),max (enX P B 2) (enY P B 2)]:=rfl;have ee:enE P B t=if (zfk (zpK P B t) != 0) || (zfk (zpL P B t) != 0) then 6 else 0:=by unfold enE;rw[hb.1,hb.2.1,hb.2.2];rfl
 have kx:∀k,okB (enX P B k)=true:=λk=>zqa _ _;have ky:∀k,okB (enY P B k)=true:=λk=>zqa _ _;have tl:=zmV (min (enX P B 0) (enY P B 0)) (min (enX P B 1) (enY P B 1)) (min (enX P B 2) (enY P B 2)) t;have th:=zmV (max (enX P B 0) (enY P B 0)) (max (enX P B 1) (enY P B 1)) (max (enX P B 2) (enY P B 2)) t;rw[<-el]at tl;rw[<-eh]at th;refine⟨min (enX P B 0) (enY P B 0),min (enX P B 1) (enY P B 1),min (enX P B 2) (enY P B 2),max (enX P B 0) (enY P B 0),max (enX P B 1) (enY P B 1),max (enX P B 2) (enY P B 2),?_,?_,?_,?_,?_⟩
 ·rw[v1,v1,v1,v2,v2,v2,<-zf8,<-zf8,<-zf8];rfl
 ·rw[v1,v1,v1,v2,v2,v2,<-ziu,<-ziu,<-ziu];rfl
 ·intro h;refine⟨zqb (zlq (kx 0) (ky 0)) (zlq (kx 1) (ky 1)) (zlq (kx 2) (ky 2)) ht h,?_⟩;rw[tl.2]at h;rw[ee,show (zfk (zpK P B t) != 0)=true by simpa using h];rfl
 ·intro h;refine⟨zqb (zlr (kx 0) (ky 0)) (zlr (kx 1) (ky 1)) (zlr (kx 2) (ky 2)) ht h,?_⟩;rw[th.2]at h;rw[ee,show (zfk (zpL P B t) != 0)=true by simpa using h,Bool.or_true];rfl
 ·intro a b;have e0:enE P B t=0:=by
   rw[tl.2]at a;rw[th.2]at b;rw[ee,a,b];rfl
  refine⟨e0,?_,?_⟩
  ·unfold zv3;rw[e0,tl.1];rfl
  ·unfold zv4;rw[e0,th.1];rfl
theorem zfo(a:Option Addr)(vs:List V3)(w:World)(p0 p1 p2:Int)(hp:pk zc7 vs=(p0,p1,p2))(row:VRow w a 2 vs):
  Calls prog 278 #[.slice a 2 2] w λe w'=>e= .returned (.agg #[.int .i64 p0,.int .i64 p1,.int .i64 p2])/\Bw w w':=
 (zpJ a 2 2 vs w om om row).mono λ_ _ ⟨he,hw⟩=>⟨by rw[he,hp];rfl,hw⟩
theorem zos(a:Option Addr)(vs:List V3)(w:World)(p0 p1 p2:Int)(hp:pk zip vs=(p0,p1,p2))(row:VRow w a 2 vs):
  Calls prog 292 #[.slice a 2 2] w λe w'=>e= .returned (.agg #[.int .i64 p0,.int .i64 p1,.int .i64 p2])/\Bw w w':=
 (zjC a 2 2 vs w om om row).mono λ_ _ ⟨he,hw⟩=>⟨by rw[he,hp];rfl,hw⟩
theorem zta(P B:Nat->Int)(w:World)(h:zei P=true)(h':zcm B=true):
  Calls prog 263 #[.agg #[.int .i64 (P 0),.int .i64 (P 1),.int .i64 (P 2),.int .i64 (P 3)],.agg #[.int .i64 (B 0),.int .i64 (B 1),.int .i64 (B 2),.int .i64 (B 3),.int .i64 (B 4),.int .i64 (B 5)]] w λe w'=>e= .returned (.tuple #[.int .i64 (zv3 P B (P 3)),.int .i64 (zv4 P B (P 3)),.int .i64 (enE P B (P 3))])/\Bw w w':=by
 have HO:=kA (And.intro h h');clear h h';obtain⟨a0,a1,a2,y1,Dd⟩:∃a0 a1 a2 y,prV P B 0=a0/\prV P B 1=a1/\prV P B 2=a2/\prE P B=y:=⟨_,_,_,_,rfl,rfl,rfl,rfl⟩;obtain⟨b0,b1,b2,y2,dx⟩:∃a0 a1 a2 y,prV P (upB B) 0=a0/\prV P (upB B) 1=a1/\prV P (upB B) 2=a2/\prE P (upB B)=y:=⟨_,_,_,_,rfl,rfl,rfl,rfl⟩;have H1:Hid (∀w',Calls prog 290 #[.agg #[.int .i64 (P 0),.int .i64 (P 1),.int .i64 (P 2)],.agg #[.int .i64 (B 0),.int .i64 (B 1),.int .i64 (B 2)]] w' λe Km=>e= .returned (.tuple #[.agg #[.int .i64 a0,.int .i64 a1,.int .i64 a2],.int .i64 y1])/\Bw w' Km):=
  kA (λw'=>(zfM P B w').mono λ_ _ ⟨he,hw⟩=>⟨by rw[he,Dd.1,Dd.2.1,Dd.2.2.1,Dd.2.2.2],hw⟩)
 have H2:Hid (∀w',Calls prog 290 #[.agg #[.int .i64 (P 0),.int .i64 (P 1),.int .i64 (P 2)],.agg #[.int .i64 (B 3),.int .i64 (B 4),.int .i64 (B 5)]] w' λe Km=>e= .returned (.tuple #[.agg #[.int .i64 b0,.int .i64 b1,.int .i64 b2],.int .i64 y2])/\Bw w' Km):=
  kA (λw'=>(zfM P (upB B) w').mono λ_ _ ⟨he,hw⟩=>⟨by rw[he,dx.1,dx.2.1,dx.2.2.1,dx.2.2.2],hw⟩)
 have HC:=kA (And.intro Dd dx);clear Dd dx
 by_cases ZI:y1=0
 ·have Yp:(y1 != 0)=false:=by rw[ZI];rfl
  by_cases qV:y2=0
  ·have dO:(y2 != 0)=false:=by rw[qV];rfl
   obtain⟨l0,l1,l2,g0,g1,g2,hl,hg,sT,xB,Q1⟩:=zwo (P:=P) (B:=B) (zfn HO.1 (k:=3) om) (by rw[HC.1.2.2.2];exact ZI) (by rw[HC.2.2.2.2];exact qV);rw[HC.1.1,HC.1.2.1,HC.1.2.2.1,HC.2.1,HC.2.2.1,HC.2.2.2.1]at hl hg;have HL:=kA hl;have HG:=kA hg;obtain⟨u,f1,hu,dj⟩:∃u f,u=zio [l0,l1,l2,P 3]/\f=zfk [l0,l1,l2,P 3]:=⟨_,_,rfl,rfl⟩;obtain⟨v,f2,hv,CR⟩:∃u f,u=zio [g0,g1,g2,P 3]/\f=zfk [g0,g1,g2,P 3]:=⟨_,_,rfl,rfl⟩;rw[<-dj]at sT Q1;rw[<-CR]at xB Q1;rw[<-hu,<-hv]at Q1;have T1:Hid (∀w',Calls prog 291 #[.agg #[.int .i64 l0,.int .i64 l1,.int .i64 l2],.int .i64 (P 3)] w' λe Km=>e= .returned (.tuple #[.int .i64 u,.int .i64 f1])/\Bw w' Km):=
    kA (λw'=>(zjR l0 l1 l2 (P 3) w').mono λ_ _ ⟨he,hw⟩=>⟨by rw[he,hu,dj],hw⟩)
   have T2:Hid (∀w',Calls prog 291 #[.agg #[.int .i64 g0,.int .i64 g1,.int .i64 g2],.int .i64 (P 3)] w' λe Km=>e= .returned (.tuple #[.int .i64 v,.int .i64 f2])/\Bw w' Km):=
    kA (λw'=>(zjR g0 g1 g2 (P 3) w').mono λ_ _ ⟨he,hw⟩=>⟨by rw[he,hv,CR],hw⟩)
   have HX:=kA (And.intro sT (And.intro xB Q1));clear hl hg sT xB Q1 hu dj hv CR ZI qV;go_enter func263,ntmps263;go_wp2_with fail;refine (H1 _).mono ?_;rintro e w1 ⟨rfl,b1⟩;have KP:=kA (((Blk.new w 348 _).alloc _).keep b1);have KB:=kA (zbe ((Blk.new (w.alloc _) 50 _).keep b1) (g':=w.heap.size+1) (by simp));have B1:=kA (zad (zag (zaa _ _) _) b1);clear b1;obtain⟨d0,d1,d2,d3,d4,d5,_⟩:=zu7 KB;obtain⟨p0,p1,p2,p3⟩:=zzF KP;have z:=KB.lt;have z':=KP.lt;go_wp2_with fail;refine (H2 _).mono ?_;rintro e w2 ⟨rfl,b2⟩;replace KP:=kA ((KP.alloc _).keep b2);have KX:=kA ((Blk.new w1 48 _).keep b2);replace B1:=kA (zad (zag B1 _) b2);clear b2 d0 d1 d2 d3 d4 d5 p0 p1 p2 p3 KB z z';go_wp2;refine fin (λW=>Blk W w.heap.size 348 #[.int .i64 (P 0),.int .i64 (P 1),.int .i64 (P 2),.int .i64 (P 3)]/\Blk W w1.heap.size 48 #[.int .i64 a0,.int .i64 a1,.int .i64 a2]/\Blk W w2.heap.size 48 #[.int .i64 b0,.int .i64 b1,.int .i64 b2]/\Bw w W) ⟨KP.alloc _,KX.alloc _,Blk.new w2 _ _,zag B1 _⟩ ?_;clear KP KX B1;rintro W ⟨kp,kx,ky,hb⟩;have KP:=kA kp;have KX:=kA kx;have KY:=kA ky;have HB:=kA hb;clear kp kx ky hb;have HS:Hid (∀w',Bw W w'->(w'.cell? ⟨w1.heap.size,0,none⟩=some (.int .i64 a0)/\w'.cell? ⟨w1.heap.size,1,none⟩=some (.int .i64 a1)/\w'.cell? ⟨w1.heap.size,2,none⟩=some (.int .i64 a2)/\w'.cell? ⟨w2.heap.size,0,none⟩=some (.int .i64 b0)/\w'.cell? ⟨w2.heap.size,1,none⟩=some (.int .i64 b1)/\w'.cell? ⟨w2.heap.size,2,none⟩=some (.int .i64 b2)/\w'.cell? ⟨w.heap.size,3,none⟩=some (.int .i64 (P 3)))):=
    kA (λw' hb=>⟨(KX.keep hb).cell 0,(KX.keep hb).cell 1,(KX.keep hb).cell 2,(KY.keep hb).cell 0,(KY.keep hb).cell 1,(KY.keep hb).cell 2,(KP.keep hb).cell 3⟩)
   go_region_held3 (λw'=>w'.cell? ⟨w1.heap.size,0,none⟩=some (.int .i64 a0)/\w'.cell? ⟨w1.heap.size,1,none⟩=some (.int .i64 a1)/\w'.cell? ⟨w1.heap.size,2,none⟩=some (.int .i64 a2)/\w'.cell? ⟨w2.heap.size,0,none⟩=some (.int .i64 b0)/\w'.cell? ⟨w2.heap.size,1,none⟩=some (.int .i64 b1)/\w'.cell? ⟨w2.heap.size,2,none⟩=some (.int .i64 b2)/\w'.cell? ⟨w.heap.size,3,none⟩=some (.int .i64 (P 3)))
    (first | exact HS _ (zad (zad (zaa _ _) (zaE c1)) c2) | exact HS _ (zad (zaa _ _) (zaE c1)) | exact HS _ (za5 (zaa _ _)) | exact HS _ (za5 (Below.refl _ _)))
    (first | (go_at_call 291;refine (T1 _).mono ?_;rintro e w4 ⟨rfl,c2⟩) | (go_at_call 278;refine (zfo _ _ _ l0 l1 l2 HL (zlc (Blk.drew (Blk.new W _ _)))).mono ?_;rintro e w3 ⟨rfl,c1⟩))
   have B2:=kA (zad (zad (zaa _ _) (zaE c1)) c2);clear c1 c2 HS;replace KP:=kA (KP.keep B2);replace KX:=kA (KX.keep B2);replace KY:=kA (KY.keep B2);replace HB:=kA (zad HB B2);clear B2
   by_cases dj:f1=0
   ·have KF:(f1 != 0)=false:=by rw[dj];rfl
    have Ve:=kA dj;clear dj;go_wp2;have HS:Hid (∀w',Bw w4 w'->(w'.cell? ⟨w1.heap.size,0,none⟩=some (.int .i64 a0)/\w'.cell? ⟨w1.heap.size,1,none⟩=some (.int .i64 a1)/\w'.cell? ⟨w1.heap.size,2,none⟩=some (.int .i64 a2)/\w'.cell? ⟨w2.heap.size,0,none⟩=some (.int .i64 b0)/\w'.cell? ⟨w2.heap.size,1,none⟩=some (.int .i64 b1)/\w'.cell? ⟨w2.heap.size,2,none⟩=some (.int .i64 b2)/\w'.cell? ⟨w.heap.size,3,none⟩=some (.int .i64 (P 3)))):=
     kA (λw' hb=>⟨(KX.keep hb).cell 0,(KX.keep hb).cell 1,(KX.keep hb).cell 2,(KY.keep hb).cell 0,(KY.keep hb).cell 1,(KY.keep hb).cell 2,(KP.keep hb).cell 3⟩)
    go_region_held3 (λw'=>w'.cell? ⟨w1.heap.size,0,none⟩=some (.int .i64 a0)/\w'.cell? ⟨w1.heap.size,1,none⟩=some (.int .i64 a1)/\w'.cell? ⟨w1.heap.size,2,none⟩=some (.int .i64 a2)/\w'.cell? ⟨w2.heap.size,0,none⟩=some (.int .i64 b0)/\w'.cell? ⟨w2.heap.size,1,none⟩=some (.int .i64 b1)/\w'.cell? ⟨w2.heap.size,2,none⟩=some (.int .i64 b2)/\w'.cell? ⟨w.heap.size,3,none⟩=some (.int .i64 (P 3)))
     (first | exact HS _ (zad (zad (zaa _ _) (zaE c1)) c2) | exact HS _ (zad (zaa _ _) (zaE c1)) | exact HS _ (za5 (zaa _ _)) | exact HS _ (za5 (Below.refl _ _)))
     (first | (go_at_call 291;refine (T2 _).mono ?_;rintro e w6 ⟨rfl,c2⟩) | (go_at_call 292;refine (zos _ _ _ g0 g1 g2 HG (zlc (Blk.drew (Blk.new w4 _ _)))).mono ?_;rintro e w5 ⟨rfl,c1⟩))
    have Hm:=kA (zad HB (zad (zad (zaa _ _) (zaE c1)) c2));clear c1 c2 HS
    by_cases CR:f2=0
    ·have Ko:(f2 != 0)=false:=by rw[CR];rfl
     have mi:=kA CR;clear CR;go_wp2;have q:=HX.2.2 Ve mi;exact bodyPost_ret (v:= .tuple #[.int .i64 u,.int .i64 v,.int .i64 0]) (by simp[results,results263,go_sem]) rfl ⟨by rw[q.1,q.2.1,q.2.2],Hm⟩
    ·have Ko:(f2 != 0)=true:=by simpa using CR
     have q:=kA (HX.2.1 CR);clear CR;go_wp2;exact bodyPost_ret (v:= .tuple #[.int .i64 0,.int .i64 0,.int .i64 f2]) (by simp[results,results263,go_sem]) rfl ⟨by rw[q.out.1,q.out.2,(zjD q.out.2).1,(zjD q.out.2).2],Hm⟩
   ·have KF:(f1 != 0)=true:=by simpa using dj
    have q:=kA (HX.1 dj);clear dj;go_wp2;exact bodyPost_ret (v:= .tuple #[.int .i64 0,.int .i64 0,.int .i64 f1]) (by simp[results,results263,go_sem]) rfl ⟨by rw[q.out.1,q.out.2,(zjD q.out.2).1,(zjD q.out.2).2],HB⟩
  ·have dO:(y2 != 0)=true:=by simpa using qV
   have q:=kA (zyr (t:=P 3) HO.1 HO.2 (by rw[HC.2.2.2.2];exact qV));rw[HC.2.2.2.2]at q;clear ZI qV;go_enter func263,ntmps263;go_wp2_with fail;refine (H1 _).mono ?_;rintro e w1 ⟨rfl,b1⟩;have KP:=kA (((Blk.new w 348 _).alloc _).keep b1);have KB:=kA (zbe ((Blk.new (w.alloc _) 50 _).keep b1) (g':=w.heap.size+1) (by simp));have B1:=kA (zad (zag (zaa _ _) _) b1);clear b1;obtain⟨d0,d1,d2,d3,d4,d5,_⟩:=zu7 KB;obtain⟨p0,p1,p2,p3⟩:=zzF KP;have z:=KB.lt;have z':=KP.lt;go_wp2_with fail;refine (H2 _).mono ?_;rintro e w2 ⟨rfl,b2⟩;replace B1:=kA (zad (zag B1 _) b2);clear b2 d0 d1 d2 d3 d4 d5 p0 p1 p2 p3 KB KP z z';go_wp2;exact bodyPost_ret (v:= .tuple #[.int .i64 0,.int .i64 0,.int .i64 y2]) (by simp[results,results263,go_sem]) rfl ⟨by rw[q.out.1,q.out.2,(zjD q.out.2).1,(zjD q.out.2).2],zag B1 _⟩
 ·have Yp:(y1 != 0)=true:=by simpa using ZI
  have q:=kA (zyq (t:=P 3) HO.1 HO.2 (by rw[HC.1.2.2.2];exact ZI));rw[HC.1.2.2.2]at q;clear ZI;go_enter func263,ntmps263;go_wp2_with fail;refine (H1 _).mono ?_;rintro e w1 ⟨rfl,b1⟩;have B1:=kA (zad (zag (zaa _ _) _) b1);clear b1;go_wp2;exact bodyPost_ret (v:= .tuple #[.int .i64 0,.int .i64 0,.int .i64 y1]) (by simp[results,results263,go_sem]) rfl ⟨by rw[q.out.1,q.out.2,(zjD q.out.2).1,(zjD q.out.2).2],zag B1 _⟩
theorem ztb(B:Nat->Int):zcm B=(zbW [(B 0,B 1,B 2),(B 3,B 4,B 5)] && (bet zc7 (B 0) (B 3)==B 0 && bet zc7 (B 1) (B 4)==B 1 && bet zc7 (B 2) (B 5)==B 2)):=by
 have e:∀a b:Int,(bet zc7 a b==a)=decide (a<=b):=λa b=>by
  rw[zf8]
  by_cases c:a<=b
  ·rw[show min a b=a by omega,decide_eq_true c];simp
  ·rw[decide_eq_false c];simp;omega
 rw[e,e,e];unfold zcm zhz zhz zhz zhz
 cases zbW [(B 0,B 1,B 2),(B 3,B 4,B 5)] <;> simp[Bool.and_assoc]
theorem ziv{a:Option Addr}{len:Nat}{vs:List V3}(hr:zbW vs=b)(row:VRow w a len vs):
  Calls prog 277 #[.slice a len cap] w λe w'=>e= .returned (.bool b)/\Bw w w':=
 (zn8 a len cap vs w row).mono λ_ _ ⟨he,hw⟩=>⟨by rw[he,hr],hw⟩
theorem zls(a:Option Addr)(len cap:Nat)(Bs:List (Nat->Int))(w:World)(row:BRow w a len Bs):
  Calls prog 238 #[.slice a len cap] w λe w'=>e= .returned (.bool (zdM Bs))/\Bw w w':=by
 have HL:=kA row.1;have Hy:=row.2.1;have hJ:=kA row;clear row;go_enter func238,ntmps238;go_wp2
 go_loopw [4,7] (λ_ i wr=>∃k:Nat,k<=len/\i= .int .i64 k/\zdM (Bs.take k)=true/\Bw w wr) (λ_ i _=>len - (intOf i).toNat)
 case atStart=>exact⟨0,zero_le _,rfl,rfl,Below.refl _ _⟩
 case round=>
  obtain⟨k,hk,rfl,hr,hb⟩:=hrel;have HR:=kA hr;have HB:=kA hb;clear hr hb
  by_cases hlt:k<len
  ·obtain⟨b,off,B,rfl,hv,m0,m1,m2,m3,m4,m5⟩:=(zpO hJ HB).at_ hlt;have HV:=kA hv;clear hv;have HS:Hid (∀w',Below (wr.alloc (.cells #[.int .i64 (B 0),.int .i64 (B 1),.int .i64 (B 2),.int .i64 (B 3),.int .i64 (B 4),.int .i64 (B 5)] 50)).heap.size (wr.alloc (.cells #[.int .i64 (B 0),.int .i64 (B 1),.int .i64 (B 2),.int .i64 (B 3),.int .i64 (B 4),.int .i64 (B 5)] 50)) w'->(w'.cell? ⟨wr.heap.size,0,none⟩=some (.int .i64 (B 0))/\w'.cell? ⟨wr.heap.size,1,none⟩=some (.int .i64 (B 1))/\w'.cell? ⟨wr.heap.size,2,none⟩=some (.int .i64 (B 2))/\w'.cell? ⟨wr.heap.size,3,none⟩=some (.int .i64 (B 3))/\w'.cell? ⟨wr.heap.size,4,none⟩=some (.int .i64 (B 4))/\w'.cell? ⟨wr.heap.size,5,none⟩=some (.int .i64 (B 5)))):=
    kA (λw' hb=>⟨((Blk.new wr _ _).keep hb).cell 0,((Blk.new wr _ _).keep hb).cell 1,((Blk.new wr _ _).keep hb).cell 2,((Blk.new wr _ _).keep hb).cell 3,((Blk.new wr _ _).keep hb).cell 4,((Blk.new wr _ _).keep hb).cell 5⟩)
   obtain⟨p0,p1,p2,hp⟩:∃p0 p1 p2,pk zc7 [(B 0,B 1,B 2),(B 3,B 4,B 5)]=(p0,p1,p2):=⟨_,_,_,rfl⟩;have Hp:=ztb B;obtain⟨q0,hq⟩:bet zc7 (B 0) (B 3)=p0/\bet zc7 (B 1) (B 4)=p1/\bet zc7 (B 2) (B 5)=p2:=by
    have h3:(bet zc7 (B 0) (B 3),bet zc7 (B 1) (B 4),bet zc7 (B 2) (B 5))=(p0,p1,p2):=hp;simpa using h3
   rw[q0,hq.1,hq.2]at Hp;have HP:=kA hp;have dN:=kA Hp;clear hp Hp q0 hq;have heq:=zzE
   by_cases dy:zbW [(B 0,B 1,B 2),(B 3,B 4,B 5)]=true
   ·have ki:=kA dy;clear dy
    by_cases Q2:(p0==B 0 && p1==B 1 && p2==B 2)=true
    ·go_wp2
     go_region_held3 (λw'=>w'.cell? ⟨wr.heap.size,0,none⟩=some (.int .i64 (B 0))/\w'.cell? ⟨wr.heap.size,1,none⟩=some (.int .i64 (B 1))/\w'.cell? ⟨wr.heap.size,2,none⟩=some (.int .i64 (B 2))/\w'.cell? ⟨wr.heap.size,3,none⟩=some (.int .i64 (B 3))/\w'.cell? ⟨wr.heap.size,4,none⟩=some (.int .i64 (B 4))/\w'.cell? ⟨wr.heap.size,5,none⟩=some (.int .i64 (B 5)))
      (first | exact HS _ (zad (zag (zad (zaa _ _) (zaE c1)) _) c2) | exact HS _ (zag (zad (zaa _ _) (zaE c1)) _) | exact HS _ (zad (zaa _ _) (zaE c1)) | exact HS _ (za5 (zaa _ _)) | exact HS _ (za5 (Below.refl _ _)))
      (first | (go_at_call 278;refine (zfo _ _ _ p0 p1 p2 HP (zlc (Blk.new _ _ _))).mono ?_;rintro e w2 ⟨rfl,c2⟩) | (go_at_call 277;refine (ziv ki (zlc (Blk.drew (zbe (Blk.new _ _ _) (by simp))))).mono ?_;rintro e w1 ⟨rfl,c1⟩))
     have B2:=kA (zad (zag (zad (zag (zag HB _) _) (zaE c1)) _) c2);have HG:=kA (show zcm B=true by rw[dN.out,ki.out,Q2];rfl);clear c1 c2 Q2 m0 m1 m2 m3 m4 m5;go_wp2;go_roundw
     case rel=>exact⟨k+1,om,by go_num,zjG HV HR HG,B2⟩
     case measure=>simp[intOf] <;> omega
    ·have Q3:(p0==B 0 && p1==B 1 && p2==B 2)=false:=by simpa using Q2
     clear Q2;go_wp2
     go_region_held3 (λw'=>w'.cell? ⟨wr.heap.size,0,none⟩=some (.int .i64 (B 0))/\w'.cell? ⟨wr.heap.size,1,none⟩=some (.int .i64 (B 1))/\w'.cell? ⟨wr.heap.size,2,none⟩=some (.int .i64 (B 2))/\w'.cell? ⟨wr.heap.size,3,none⟩=some (.int .i64 (B 3))/\w'.cell? ⟨wr.heap.size,4,none⟩=some (.int .i64 (B 4))/\w'.cell? ⟨wr.heap.size,5,none⟩=some (.int .i64 (B 5)))
      (first | exact HS _ (zad (zag (zad (zaa _ _) (zaE c1)) _) c2) | exact HS _ (zag (zad (zaa _ _) (zaE c1)) _) | exact HS _ (zad (zaa _ _) (zaE c1)) | exact HS _ (za5 (zaa _ _)) | exact HS _ (za5 (Below.refl _ _)))
      (first | (go_at_call 278;refine (zfo _ _ _ p0 p1 p2 HP (zlc (Blk.new _ _ _))).mono ?_;rintro e w2 ⟨rfl,c2⟩) | (go_at_call 277;refine (ziv ki (zlc (Blk.drew (zbe (Blk.new _ _ _) (by simp))))).mono ?_;rintro e w1 ⟨rfl,c1⟩))
     have B2:=kA (zad (zag (zad (zag (zag HB _) _) (zaE c1)) _) c2);have HG:=kA (show zcm B=false by rw[dN.out,ki.out,Q3];rfl);clear c1 c2 Q3 m0 m1 m2 m3 m4 m5;go_wp2;go_ret;exact⟨by rw[zgt HV HG];rfl,B2⟩
   ·have yF:zbW [(B 0,B 1,B 2),(B 3,B 4,B 5)]=false:=by simpa using dy
    have ki:=kA yF;clear dy yF;go_wp2;refine wp_region_held_drew (S:=(λw'=>w'.cell? ⟨wr.heap.size,0,none⟩=some (.int .i64 (B 0))/\w'.cell? ⟨wr.heap.size,1,none⟩=some (.int .i64 (B 1))/\w'.cell? ⟨wr.heap.size,2,none⟩=some (.int .i64 (B 2))/\w'.cell? ⟨wr.heap.size,3,none⟩=some (.int .i64 (B 3))/\w'.cell? ⟨wr.heap.size,4,none⟩=some (.int .i64 (B 4))/\w'.cell? ⟨wr.heap.size,5,none⟩=some (.int .i64 (B 5)))) oM (HS _ (za5 (Below.refl _ _))) (λhHeld=> ?_);refine wpAnyH_take (i:=0) (v:= ?_) rfl oM oM oM (λ_ _ _ h=>h) (.inl ⟨by rfl,?_⟩) hHeld ?_
    rotate_left
    ·rintro w ⟨s0,s1,s2,s3,s4,s5⟩;go_simp
     with_reducible rfl
    simp only[Act.put,getElem_toArray,getElem_cons_zero,setIfInBounds_toArray,set_cons_zero,set_cons_succ];refine wpAnyH_take (i:=1) (v:= ?_) rfl oM oM oM (λ_ _ _ h=>h) (.inl ⟨by rfl,?_⟩) hHeld ?_
    rotate_left
    ·rintro w ⟨s0,s1,s2,s3,s4,s5⟩;go_simp
     with_reducible rfl
    simp only[Act.put,getElem_toArray,getElem_cons_zero,getElem_cons_succ,setIfInBounds_toArray,set_cons_zero,set_cons_succ];refine wpAnyH_take (i:=2) (v:= ?_) rfl oM oM oM (λ_ _ _ h=>h) (.inl ⟨by rfl,?_⟩) hHeld ?_
    rotate_left
    ·rintro w ⟨s0,s1,s2,s3,s4,s5⟩;go_simp
     with_reducible rfl
    simp only[Act.put,getElem_toArray,getElem_cons_zero,getElem_cons_succ,setIfInBounds_toArray,set_cons_zero,set_cons_succ];refine wpAnyH_take (i:=3) (v:= ?_) rfl oM oM oM (λ_ _ _ h=>h) (.inl ⟨by rfl,?_⟩) hHeld ?_
    rotate_left
    ·rintro w ⟨s0,s1,s2,s3,s4,s5⟩;go_simp
     with_reducible rfl
    simp only[Act.put,getElem_toArray,getElem_cons_zero,getElem_cons_succ,setIfInBounds_toArray,set_cons_zero,set_cons_succ];refine rd 4 (λK hK=> ?_);go_simp;refine hK.out _ _ (HS _ (za5 (zaa _ _))) (λhHeld=> ?_);clear hK K;refine rd 5 (λK hK=> ?_);go_simp
    go_at_call 277
    refine (ziv ki (zlc (Blk.drew (zbe (Blk.new _ _ _) (by simp))))).mono ?_;rintro e w1 ⟨rfl,c1⟩;go_wp2_with fail;refine hK.out _ _ (HS _ (zad (zaa _ _) (zaE c1))) (λhHeld=> ?_);clear hK K;refine tk 6 hHeld ?_;refine tk 7 hHeld ?_;refine tks 8 hHeld ?_;refine tks 9 hHeld ?_;refine tks 10 hHeld ?_;refine tks 11 hHeld ?_;refine tks 12 hHeld ?_;refine tks 13 hHeld ?_;refine tks 14 hHeld ?_;refine tks 15 hHeld ?_;refine tks 16 hHeld ?_;refine tk 17 hHeld ?_;refine wpAnyH_done oM ?_ _;clear hHeld;have B2:=kA (zad (zag (zag HB _) _) (zaE c1));have HG:=kA (show zcm B=false by rw[dN.out,ki.out];rfl);clear c1 m0 m1 m2 m3 m4 m5;go_wp2;go_ret;exact⟨by rw[zgt HV HG];rfl,B2⟩
  ·obtain rfl:k=len:=om;go_wp2;go_ret;exact⟨by rw[show Bs=Bs.take k from (take_of_length_le (by rw[HL.out];exact Nat.le_refl _)).symm,HR.out];rfl,HB⟩
theorem zzR{t:TypeId}(h:Blk w g t #[.int .i64 (B 0),.int .i64 (B 1),.int .i64 (B 2),.int .i64 (B 3),.int .i64 (B 4),.int .i64 (B 5)]):BRow w (some ⟨g,0,none⟩) 1 [B]:=by
 refine⟨rfl,om,.inr ⟨_,_,rfl,λi hi j hj=> ?_⟩⟩;obtain rfl:i=0:=om;rcases lt6 hj with rfl | rfl | rfl | rfl | rfl | rfl
 ·exact h.cell 0
 ·exact h.cell 1
 ·exact h.cell 2
 ·exact h.cell 3
 ·exact h.cell 4
 ·exact h.cell 5
theorem ziw(ho:zcm B=b){w:World}{g cap:Nat}{t:TypeId}(h:Blk w g t #[.int .i64 (B 0),.int .i64 (B 1),.int .i64 (B 2),.int .i64 (B 3),.int .i64 (B 4),.int .i64 (B 5)]):
  Calls prog 238 #[.slice (some ⟨g,0,none⟩) 1 cap] w λe w'=>e= .returned (.bool b)/\Bw w w':=
 (zls _ 1 cap [B] w (zzR h)).mono λ_ _ ⟨he,hw⟩=>⟨by rw[he];unfold zdM;simp[ho],hw⟩
theorem zlt{M:Nat->Int}(h:okM M=true){r:Nat}(hr:r<3):zei (spM M r)=true:=by
 unfold zei zaL spM;simp[zmF h (k:=4*r+1) om,zmF h (k:=4*r+2) om,zmF h (k:=4*r+3) om];exact zmF h (k:=4*r) om
theorem zlu(M B:Nat->Int)(w:World)(h:okM M=false):
  Calls prog 216 #[.agg #[.int .i64 (M 0),.int .i64 (M 1),.int .i64 (M 2),.int .i64 (M 3),.int .i64 (M 4),.int .i64 (M 5),.int .i64 (M 6),.int .i64 (M 7),.int .i64 (M 8),.int .i64 (M 9),.int .i64 (M 10),.int .i64 (M 11)],.agg #[.int .i64 (B 0),.int .i64 (B 1),.int .i64 (B 2),.int .i64 (B 3),.int .i64 (B 4),.int .i64 (B 5)]] w λe w'=>e= .returned (.tuple #[.agg #[.int .i64 0,.int .i64 0,.int .i64 0,.int .i64 0,.int .i64 0,.int .i64 0],.int .i64 1])/\Bw w w':=by
 have HO:=kA h;clear h;go_enter func216,ntmps216;go_wp2_with fail;refine (ziq HO (zbe (Blk.new _ _ _) (by simp))).mono ?_;rintro e w1 ⟨rfl,b1⟩;have KR:=kA (zbe (((Blk.new ((w.alloc _).alloc _) 50 _).alloc _).keep b1) (g':=w.heap.size+2) (by simp));have B1:=kA (zad (zag (zag (zag (zaa _ _) _) _) _) b1);clear b1;obtain⟨c0,c1,c2,c3,c4,c5,f0,f1,f2,f3,f4,f5⟩:=zu7 KR;go_wp2;exact bodyPost_ret (v:= .tuple #[.agg #[.int .i64 0,.int .i64 0,.int .i64 0,.int .i64 0,.int .i64 0,.int .i64 0],.int .i64 1]) (by simp[results,results216,go_sem,c0,c1,c2,c3,c4,c5]) rfl ⟨rfl,zsR B1 om⟩
theorem zlv(M B:Nat->Int)(w:World)(h:okM M=true)(h':zcm B=false):
  Calls prog 216 #[.agg #[.int .i64 (M 0),.int .i64 (M 1),.int .i64 (M 2),.int .i64 (M 3),.int .i64 (M 4),.int .i64 (M 5),.int .i64 (M 6),.int .i64 (M 7),.int .i64 (M 8),.int .i64 (M 9),.int .i64 (M 10),.int .i64 (M 11)],.agg #[.int .i64 (B 0),.int .i64 (B 1),.int .i64 (B 2),.int .i64 (B 3),.int .i64 (B 4),.int .i64 (B 5)]] w λe w'=>e= .returned (.tuple #[.agg #[.int .i64 0,.int .i64 0,.int .i64 0,.int .i64 0,.int .i64 0,.int .i64 0],.int .i64 1])/\Bw w w':=by
 have HO:=kA (And.intro h h');clear h h';go_enter func216,ntmps216;go_wp2_with fail;refine (ziq HO.1 (zbe (Blk.new _ _ _) (by simp))).mono ?_;rintro e w1 ⟨rfl,b1⟩;have KR:=kA (zbe (((Blk.new ((w.alloc _).alloc _) 50 _).alloc _).keep b1) (g':=w.heap.size+2) (by simp));have KB:=kA (zbe ((((Blk.new (w.alloc _) 50 _).alloc _).alloc _).keep b1) (g':=w.heap.size+1) (by simp));have B1:=kA (zad (zag (zag (zag (zaa _ _) _) _) _) b1);clear b1;obtain⟨d0,d1,d2,d3,d4,d5,_⟩:=zu7 KB;have z:=KB.lt;go_wp2_with fail;refine (ziw HO.2 (zbe (Blk.new _ _ _) (by simp))).mono ?_;rintro e w2 ⟨rfl,b2⟩;replace KR:=kA ((KR.alloc _).keep b2);replace B1:=kA (zad (zag B1 _) b2);clear b2 d0 d1 d2 d3 d4 d5 z;obtain⟨c0,c1,c2,c3,c4,c5,f0,f1,f2,f3,f4,f5⟩:=zu7 KR;go_wp2;exact bodyPost_ret (v:= .tuple #[.agg #[.int .i64 0,.int .i64 0,.int .i64 0,.int .i64 0,.int .i64 0,.int .i64 0],.int .i64 1]) (by simp[results,results216,go_sem,c0,c1,c2,c3,c4,c5]) rfl ⟨rfl,zsR B1 om⟩
theorem zlw(M B:Nat->Int)(w:World)(h:okM M=true)(h':zcm B=true):
  Calls prog 216 #[.agg #[.int .i64 (M 0),.int .i64 (M 1),.int .i64 (M 2),.int .i64 (M 3),.int .i64 (M 4),.int .i64 (M 5),.int .i64 (M 6),.int .i64 (M 7),.int .i64 (M 8),.int .i64 (M 9),.int .i64 (M 10),.int .i64 (M 11)],.agg #[.int .i64 (B 0),.int .i64 (B 1),.int .i64 (B 2),.int .i64 (B 3),.int .i64 (B 4),.int .i64 (B 5)]] w λe w'=>e= .returned (.tuple #[.agg #[.int .i64 (zcG M B 0),.int .i64 (zcG M B 1),.int .i64 (zcG M B 2),.int .i64 (zcG M B 3),.int .i64 (zcG M B 4),.int .i64 (zcG M B 5)],.int .i64 (zjv M B)])/\Bw w w':=by
 have HO:=kA (And.intro h h');clear h h';go_enter func216,ntmps216;go_wp2_with fail;refine (ziq HO.1 (zbe (Blk.new _ _ _) (by simp))).mono ?_;rintro e w1 ⟨rfl,b1⟩;have KM:=kA (((((Blk.new w 46 _).alloc _).alloc _).alloc _).keep b1);have KR:=kA (zbe (((Blk.new ((w.alloc _).alloc _) 50 _).alloc _).keep b1) (g':=w.heap.size+2) (by simp));have KB:=kA (zbe ((((Blk.new (w.alloc _) 50 _).alloc _).alloc _).keep b1) (g':=w.heap.size+1) (by simp));have B1:=kA (zad (zag (zag (zag (zaa _ _) _) _) _) b1);clear b1;obtain⟨d0,d1,d2,d3,d4,d5,_⟩:=zu7 KB;have z:=KB.lt;go_wp2_with fail;refine (ziw HO.2 (zbe (Blk.new _ _ _) (by simp))).mono ?_;rintro e w2 ⟨rfl,b2⟩;replace KM:=kA ((KM.alloc _).keep b2);replace KR:=kA ((KR.alloc _).keep b2);replace KB:=kA ((KB.alloc _).keep b2);replace B1:=kA (zad (zag B1 _) b2);clear b2 d0 d1 d2 d3 d4 d5 z;go_wp2
 go_loopw [22] (λi wr=>∃k:Nat,k<=3/\i= .int .i64 k/\(∀j,j<k->caE M B j=0)/\wr.rowIs w2.heap.size 50 6 (zgs (caK M B) k)/\BM wr w.heap.size M/\Blk wr (w.heap.size+1) 50 #[.int .i64 (B 0),.int .i64 (B 1),.int .i64 (B 2),.int .i64 (B 3),.int .i64 (B 4),.int .i64 (B 5)]/\Blk wr (w.heap.size+2) 50 #[.int .i64 0,.int .i64 0,.int .i64 0,.int .i64 0,.int .i64 0,.int .i64 0]/\Bw w wr) (λi _=>3 - (intOf i).toNat)
 case atStart=>exact⟨0,om,rfl,λj hj=>om,zoe _ _ _,KM.alloc _,KB.alloc _,KR.alloc _,zag B1 _⟩
 case round=>
  have Hd:w.heap.size+2<w2.heap.size:=KR.lt;clear KM KB KR B1;obtain⟨r,yF,rfl,hz,He,ha,Kt,Kr,hb⟩:=hrel;have HZ:=kA hz;have hJ:=kA He;have HM:=kA ha;have KB:=kA Kt;have kL:=kA Kr;have HB:=kA hb;clear hz He ha Kt Kr hb
  by_cases hr:r<3
  ·have mj:=kA (zlt HO.1 hr);have Cy:(0:Int)<=(r:Int):=om;have ma:(r:Int)<3:=om;have sU:=zv8 M;have hu:=underlying46;have HS:Hid (∀w',Bw wr w'->(w'.rangeAt w.heap.size 0 [.int .i64 (M 0),.int .i64 (M 1),.int .i64 (M 2),.int .i64 (M 3),.int .i64 (M 4),.int .i64 (M 5),.int .i64 (M 6),.int .i64 (M 7),.int .i64 (M 8),.int .i64 (M 9),.int .i64 (M 10),.int .i64 (M 11)]/\w'.cell? ⟨w.heap.size+1,0,none⟩=some (.int .i64 (B 0))/\w'.cell? ⟨w.heap.size+1,1,none⟩=some (.int .i64 (B 1))/\w'.cell? ⟨w.heap.size+1,2,none⟩=some (.int .i64 (B 2))/\w'.cell? ⟨w.heap.size+1,3,none⟩=some (.int .i64 (B 3))/\w'.cell? ⟨w.heap.size+1,4,none⟩=some (.int .i64 (B 4))/\w'.cell? ⟨w.heap.size+1,5,none⟩=some (.int .i64 (B 5)))):=
    kA (λw' hb=>⟨zpU (Blk.keep HM hb),(KB.keep hb).cell 0,(KB.keep hb).cell 1,(KB.keep hb).cell 2,(KB.keep hb).cell 3,(KB.keep hb).cell 4,(KB.keep hb).cell 5⟩)
   go_wp2
   go_region_held3 (λw'=>w'.rangeAt w.heap.size 0 [.int .i64 (M 0),.int .i64 (M 1),.int .i64 (M 2),.int .i64 (M 3),.int .i64 (M 4),.int .i64 (M 5),.int .i64 (M 6),.int .i64 (M 7),.int .i64 (M 8),.int .i64 (M 9),.int .i64 (M 10),.int .i64 (M 11)]/\w'.cell? ⟨w.heap.size+1,0,none⟩=some (.int .i64 (B 0))/\w'.cell? ⟨w.heap.size+1,1,none⟩=some (.int .i64 (B 1))/\w'.cell? ⟨w.heap.size+1,2,none⟩=some (.int .i64 (B 2))/\w'.cell? ⟨w.heap.size+1,3,none⟩=some (.int .i64 (B 3))/\w'.cell? ⟨w.heap.size+1,4,none⟩=some (.int .i64 (B 4))/\w'.cell? ⟨w.heap.size+1,5,none⟩=some (.int .i64 (B 5)))
    (first | exact HS _ (zad (zaE x1) x2) | exact HS _ (zaE x1) | exact HS _ (za5 (Below.refl _ _)))
    (first | (go_at_call 263;refine (zta (spM M r) B _ mj HO.2).mono ?_;rintro e w4 ⟨rfl,x2⟩) | (go_at_call 264;refine (zp9 M r _ hr).mono ?_;rintro e w3 ⟨rfl,x1⟩))
   have B3:=kA (zad (zaE x1) x2);clear x1 x2 HS;have Hq:=kA (hJ.of_block (B3.block _ hJ.lt));have ck:=kA (Blk.keep HM B3);have Ts:=kA (KB.keep B3);have kK:=kA (kL.keep B3);have Hm:=kA (zad HB B3);clear B3 hJ HM KB kL HB;obtain⟨p,hp⟩:∃p,p=zv3 (spM M r) B (spM M r 3):=⟨_,rfl⟩;obtain⟨q,hq⟩:∃q,q=zv4 (spM M r) B (spM M r 3):=⟨_,rfl⟩;obtain⟨s,hs⟩:∃s,s=enE (spM M r) B (spM M r 3):=⟨_,rfl⟩;have HD:Hid (zzH M B r=p/\zzI M B r=q/\caE M B r=s):=kA (by rw[hp,hq,hs];exact⟨rfl,rfl,rfl⟩);rw[<-hp,<-hq,<-hs];clear hp hq hs
   by_cases he:s=0
   ·have dw:=kA he;have xz:(s != 0)=false:=by rw[he];rfl
    clear he;have rc:=Hq.cell (i:=r) om;have rf:=Hq.frozen r;have rd:=(Hq.set r (.int .i64 p)).cell (i:=3+r) om;have rg:=(Hq.set r (.int .i64 p)).frozen (3+r);unfold zgs at rc rd;rw[if_neg om]at rc;rw[if_neg om,if_neg om]at rd;go_wp2;go_roundw
    case rel=>exact⟨r+1,om,by go_num,zeE HZ (by rw[HD.2.2];exact dw),((Hq.set r _).set (3+r) _).congr (λi hi=>by rw[<-HD.1,<-HD.2.1,show zzH M B r=caK M B r by unfold caK;rw[if_pos hr],show zzI M B r=caK M B (3+r) by unfold caK;rw[if_neg om,show 3+r - 3=r by omega]];exact zpN _ hr hi),(Blk.far ck (by simp <;> omega) _).far (by simp <;> omega) _,(Ts.far (by simp <;> omega) _).far (by simp <;> omega) _,(kK.far (by simp <;> omega) _).far (by simp <;> omega) _,(Hm.setCell (by simp <;> omega) _).setCell (by simp <;> omega) _⟩
    case measure=>simp[intOf] <;> omega
   ·have dw:=kA he;have xz:(s != 0)=true:=by simpa using he
    clear he Hq ck Ts;obtain⟨c0,c1,c2,c3,c4,c5,f0,f1,f2,f3,f4,f5⟩:=zu7 kK;go_wp2;have e1:zjv M B=s:=by
     rw[zmG HO.1 HO.2,<-HD.2.2];exact zgq (e:=caE M B) hr HZ (by rw[HD.2.2];exact dw)
    have e2:∀v,zpn s v=0:=λv=>by unfold zpn;rw[if_neg dw]
    exact bodyPost_ret (v:= .tuple #[.agg #[.int .i64 0,.int .i64 0,.int .i64 0,.int .i64 0,.int .i64 0,.int .i64 0],.int .i64 s]) (by simp[results,results216,go_sem,c0,c1,c2,c3,c4,c5]) rfl ⟨by rw[zco e1,zco e1,zco e1,zco e1,zco e1,zco e1,e1,e2,e2,e2,e2,e2,e2],zsR Hm om⟩
  ·obtain rfl:r=3:=om;have e1:zjv M B=0:=by rw[zmG HO.1 HO.2];exact zeh (e:=caE M B) HZ
   have HE:=kA e1;clear e1;have o0:wr.cell? ⟨w2.heap.size,0,none⟩=some (.int .i64 (caK M B 0)):=hJ.cell (i:=0) om;have o1:wr.cell? ⟨w2.heap.size,1,none⟩=some (.int .i64 (caK M B 1)):=hJ.cell (i:=1) om;have o2:wr.cell? ⟨w2.heap.size,2,none⟩=some (.int .i64 (caK M B 2)):=hJ.cell (i:=2) om;have o3:wr.cell? ⟨w2.heap.size,3,none⟩=some (.int .i64 (caK M B 3)):=hJ.cell (i:=3) om;have o4:wr.cell? ⟨w2.heap.size,4,none⟩=some (.int .i64 (caK M B 4)):=hJ.cell (i:=4) om;have o5:wr.cell? ⟨w2.heap.size,5,none⟩=some (.int .i64 (caK M B 5)):=hJ.cell (i:=5) om;obtain⟨c0,c1,c2,c3,c4,c5,f0,f1,f2,f3,f4,f5⟩:=zu7 kL;go_wp2;exact bodyPost_ret (v:= .tuple #[.agg #[.int .i64 (caK M B 0),.int .i64 (caK M B 1),.int .i64 (caK M B 2),.int .i64 (caK M B 3),.int .i64 (caK M B 4),.int .i64 (caK M B 5)],.int .i64 0]) (by simp[results,results216,go_sem,c0,c1,c2,c3,c4,c5]) rfl ⟨by rw[zco HE,zco HE,zco HE,zco HE,zco HE,zco HE,HE.out,zn9,zn9,zn9,zn9,zn9,zn9],zsR HB om⟩
theorem zlx(M B:Nat->Int)(w:World):
  Calls prog 216 #[.agg #[.int .i64 (M 0),.int .i64 (M 1),.int .i64 (M 2),.int .i64 (M 3),.int .i64 (M 4),.int .i64 (M 5),.int .i64 (M 6),.int .i64 (M 7),.int .i64 (M 8),.int .i64 (M 9),.int .i64 (M 10),.int .i64 (M 11)],.agg #[.int .i64 (B 0),.int .i64 (B 1),.int .i64 (B 2),.int .i64 (B 3),.int .i64 (B 4),.int .i64 (B 5)]] w λe w'=>e= .returned (.tuple #[.agg #[.int .i64 (zcG M B 0),.int .i64 (zcG M B 1),.int .i64 (zcG M B 2),.int .i64 (zcG M B 3),.int .i64 (zcG M B 4),.int .i64 (zcG M B 5)],.int .i64 (zjv M B)])/\Bw w w':=by
 by_cases h:okM M=true
 ·by_cases h':zcm B=true
  ·exact zlw M B w h h'
  ·have h2:zcm B=false:=by simpa using h'
   have h3:zjF M B=false:=by unfold zjF;rw[h2,Bool.and_false]
   rw[zli h3,zcn h3,zcn h3,zcn h3,zcn h3,zcn h3,zcn h3];exact zlv M B w h h2
 ·have h2:okM M=false:=by simpa using h
  have h3:zjF M B=false:=by unfold zjF;rw[h2,Bool.false_and]
  rw[zli h3,zcn h3,zcn h3,zcn h3,zcn h3,zcn h3,zcn h3];exact zlu M B w h2
theorem ztc:0<=zT.1/\zT.1<=31:=by decide
theorem zwp(P Q:PT)(w:World):(Op.equalIn 10000 52 (.agg (pl P).toArray) (.agg (pl Q).toArray)).run prog w= .ok (eqT P Q) w:=zwd _ _ _ _ _ _ _ _ _ _ _ _ _ _ _ _ w
theorem zmW(P:PT)(s:Int)(w:World):
  Calls prog 234 #[.agg (pl P).toArray,.int .i64 s] w λe w'=>e= .returned (.agg (pl (zcQ s P)).toArray)/\Bw w w':=by
 rw[<-zp6 s P];obtain⟨R,hR⟩:∃R,R=zfY zT P (zaU s):=⟨_,rfl⟩;have HC:Hid (∀a cap w,Row w a (zaU s).length (zaU s)->Calls prog 232 #[.agg (pl zT).toArray,.agg (pl P).toArray,.slice a (zaU s).length cap] w λe w'=>e= .returned (.agg (pl R).toArray)/\Bw w w'):=kA (λa cap w row=>by rw[hR];exact zp8 zT P a _ cap (zaU s) w ztc (zp5 s) row);rw[<-hR];clear hR;have hu:=underlying52;have Ha:=kA (zaJ P);have KP:=kA ((Blk.new w 52 (pl P).toArray).alloc (.cells (pl zT).toArray 52));have KR:=kA (zbe (Blk.new (w.alloc (.cells (pl P).toArray 52)) 52 (pl zT).toArray) (g':=w.heap.size+1) (by simp));go_enter func234,ntmps234;go_wp2;refine wp_region_held_drew (S:=λw'=>w'.rangeAt w.heap.size 0 (pl P)) oM (zac (Blk.drew KP)) (λhHeld=> ?_);refine tk 0 hHeld ?_;refine tkl 1 rfl (yieldsIf_load_mid (by rfl) _ _ rfl _ _ rfl _ _ (λ_ h=>h) hu rfl Ha) hHeld ?_;refine tk 2 hHeld ?_;refine rd 3 (λK hK=> ?_);go_simp
 go_at_call 276
 refine (zol s _).mono ?_;rintro e w1 ⟨ka,kc,rfl,He,b1⟩;go_wp2_with fail;refine hK.out _ _ (zac (Blk.keep (Blk.drew KP) b1)) (λhHeld=> ?_);clear hK K hHeld;replace KP:=kA (Blk.keep (Blk.drew KP) b1);replace KR:=kA (Blk.keep (Blk.drew KR) b1);have HB:=kA (zad (zag (zaa _ _) _) (zaE b1));have hJ:=kA He;have hHeld:Hid (w1.rangeAt w.heap.size 0 (pl P)):=kA (zac KP);clear b1 He;replace hHeld:=hHeld.out;refine rd 4 (λK hK=> ?_);go_simp
 go_at_call 232
 refine (HC.out _ _ _ hJ.out).mono ?_;rintro e w2 ⟨rfl,b2⟩;go_wp2_with fail;refine hK.out _ _ (zac (Blk.keep KP.out b2)) (λhHeld=> ?_);clear hK K hHeld;replace KP:=kA (Blk.keep KP.out b2);replace KR:=kA (Blk.keep KR.out b2);replace HB:=kA (zad HB.out b2);have hHeld:=zac KP.out;clear b2 hJ;have dD:=kA (zan (X:=pl R) (Z:=pl zT) rfl ▸ zaf (pl R) KR.out (by simp[zcv]));refine rd 5 (λK hK=> ?_);rw[if_pos (by rfl)];refine wp_store_mid 52 _ _ rfl (w.heap.size+1) 0 (pl R).toArray rfl rfl (zae KR.out (by simp[zcv])) (zbL _) (zc8 _) ?_;refine hK.out _ _ (zac (zat _ KP.out om)) (λhHeld=> ?_);clear hK K;refine wpAnyH_done oM ?_ _;clear hHeld;go_wp2_with fail;refine fin (λW=>Blk W (w.heap.size+1) 52 (pl R).toArray/\Bw w W) ⟨dD.out,zab _ HB.out om⟩ ?_;rintro W ⟨kr,hb⟩;have hl:=run_loadVar_mid W (w.heap.size+1) 0 52 (pl R) _ (zac kr) underlying52 rfl (zaJ R);exact bodyPost_ret (v:= .agg (pl R).toArray) (zaD results234 rfl hl) rfl ⟨rfl,hb⟩
theorem ztd(P:PT)(w:World):
  Calls prog 177 #[.agg (pl P).toArray] w λe w'=>e= .returned (.bool (zjO P))/\Bw w w':=by
 have HC:=kA (zmW P P.1);have heq:=zwp (zcQ P.1 P) P;rw[show eqT (zcQ P.1 P) P=zjO P from rfl]at heq;obtain⟨R,hR⟩:∃R,R=zcQ P.1 P:=⟨_,rfl⟩;rw[<-hR]at HC heq;clear hR;obtain⟨b,hb⟩:∃b,b=zjO P:=⟨_,rfl⟩;rw[<-hb]at heq;rw[<-hb];clear hb;have hu:=underlying52;have Ha:=kA (zaJ P);have KP:=kA (Blk.new w 52 (pl P).toArray);go_enter func177,ntmps177;go_wp2;refine wp_region_held_drew (S:=λw'=>w'.rangeAt w.heap.size 0 (pl P)/\w'.cell? ⟨w.heap.size,0,none⟩=some (.int .i64 P.1)) oM ⟨zac (Blk.drew KP),KP.cell 0⟩ (λhHeld=> ?_);refine tkl 0 rfl (yieldsIf_load_mid (by rfl) _ _ rfl _ _ rfl _ _ (λ_ h=>h.1) hu rfl Ha) hHeld ?_;refine wpAnyH_take (i:=1) (v:= ?_) rfl oM oM oM (λ_ _ _ h=>h) (.inl ⟨by rfl,?_⟩) hHeld ?_
 rotate_left
 ·rintro w ⟨s1,s2⟩;go_simp
  with_reducible rfl
 simp only[Act.put,getElem_toArray,getElem_cons_zero,getElem_cons_succ,setIfInBounds_toArray,set_cons_zero,set_cons_succ];refine wpAnyH_take (i:=2) (v:= ?_) rfl oM oM oM (λ_ _ _ h=>h) (.inl ⟨by rfl,?_⟩) hHeld ?_
 rotate_left
 ·rintro w ⟨s1,s2⟩;go_simp
  with_reducible rfl
 simp only[Act.put,getElem_toArray,getElem_cons_zero,getElem_cons_succ,setIfInBounds_toArray,set_cons_zero,set_cons_succ];refine tkl 4 rfl (yieldsIf_load_mid (by rfl) _ _ rfl _ _ rfl _ _ (λ_ h=>h.1) hu rfl Ha) hHeld ?_;refine rd 3 (λK hK=> ?_);go_simp
 go_at_call 234
 refine (HC _).mono ?_;rintro e w1 ⟨rfl,b1⟩;go_wp2_with fail;refine hK.out _ _ ⟨zac (Blk.keep (Blk.drew KP) b1),(Blk.keep (Blk.drew KP) b1).cell 0⟩ (λhHeld=> ?_);clear hK K;have HB:=kA (zad (zaa _ _) (zaE b1));clear b1;refine wpAnyH_take (i:=5) (v:= ?_) rfl oM oM oM (λ_ _ _ h=>h) (.inl ⟨by rfl,?_⟩) hHeld ?_
 rotate_left
 ·rintro w ⟨s1,s2⟩;go_simp
  with_reducible rfl
 simp only[Act.put,getElem_toArray,getElem_cons_zero,getElem_cons_succ,setIfInBounds_toArray,set_cons_zero,set_cons_succ];refine wpAnyH_take (i:=6) (v:= ?_) rfl oM oM oM (λ_ _ _ h=>h) (.inl ⟨by rfl,?_⟩) hHeld ?_
 rotate_left
 ·rintro w ⟨s1,s2⟩;go_simp
  with_reducible rfl
 simp only[Act.put,getElem_toArray,getElem_cons_zero,getElem_cons_succ,setIfInBounds_toArray,set_cons_zero,set_cons_succ];refine wpAnyH_done oM ?_ _;clear hHeld;go_wp2_with fail;go_ret;exact⟨rfl,HB⟩
theorem za6{ops:Array Oper}{rest:List Oper}{op:Oper}{a:Act}{Q:Exit->Act->World->Prop}(hw:Region.wanted op (yielded ops a.tmps)=true)(ty:TypeId)(x:Operand)(ho:op.op= .load ty x)
  (b o:Nat)(hx:a.eval x= .pointer (some ⟨b,o,none⟩))(cs:List Value)(d:TypeDesc)(hc:w.rangeAt b o cs)
  (hu:prog.underlying ty=some d)(hd:d.isRow=true)(hi:(prog.info? ty).map (·.size)=some cs.length)
  (h:wpList prog ops Q rest (a.put op.dst (.agg cs.toArray)) w):wpList prog ops Q (op::rest) a w:=by
 rw[wpList,if_pos hw];exact .inl (wp_load_mid ty x ho b o hx cs d hc hu hd hi h)
theorem zwq(h:Int)(M:Nat->Int)(m:Int)(B:Nat->Int)(p a:Int)(c:Bool)(l:Int)(w:World):
  Calls prog 176 #[.agg (PL h M m B p a c l).toArray] w λe w'=>e= .returned (.bool (zhA M m B p a l))/\Bw w w':=by
 unfold zhA;obtain⟨b1,h1⟩:∃b,okM M=b:=⟨_,rfl⟩;obtain⟨b2,h2⟩:∃b,inB m 255=b:=⟨_,rfl⟩;obtain⟨b3,h3⟩:∃b,zcm B=b:=⟨_,rfl⟩;obtain⟨b4,h4⟩:∃b,inB p 63=b:=⟨_,rfl⟩;obtain⟨b5,h5⟩:∃b,inB a 255=b:=⟨_,rfl⟩;obtain⟨b6,h6⟩:∃b,inB l 255=b:=⟨_,rfl⟩;have H1:=kA h1;have H2:=kA h2;have H3:=kA h3;have H4:=kA h4;have H5:=kA h5;have H6:=kA h6;rw[h1,h2,h3,h4,h5,h6];clear h1 h2 h3 h4 h5 h6;have De:Hid (∀u g,Blk u g 52 (PL h M m B p a c l).toArray->u.rangeAt g 1 [.int .i64 (M 0),.int .i64 (M 1),.int .i64 (M 2),.int .i64 (M 3),.int .i64 (M 4),.int .i64 (M 5),.int .i64 (M 6),.int .i64 (M 7),.int .i64 (M 8),.int .i64 (M 9),.int .i64 (M 10),.int .i64 (M 11)]):=kA (λu g k=>zaH k 1 12);have ki:Hid (∀u g,Blk u g 52 (PL h M m B p a c l).toArray->u.rangeAt g 14 [.int .i64 (B 0),.int .i64 (B 1),.int .i64 (B 2),.int .i64 (B 3),.int .i64 (B 4),.int .i64 (B 5)]):=kA (λu g k=>zaH k 14 6);have HC:Hid (∀u g,Blk u g 52 (PL h M m B p a c l).toArray->u.cell? ⟨g,13,none⟩=some (.int .i64 m)/\u.cell? ⟨g,20,none⟩=some (.int .i64 p)/\u.cell? ⟨g,21,none⟩=some (.int .i64 a)/\u.cell? ⟨g,23,none⟩=some (.int .i64 l)):=kA (λu g k=>⟨k.cell 13,k.cell 20,k.cell 21,k.cell 23⟩);have kW:Hid ((prog.info? 46).map (·.size)=some ([.int .i64 (M 0),.int .i64 (M 1),.int .i64 (M 2),.int .i64 (M 3),.int .i64 (M 4),.int .i64 (M 5),.int .i64 (M 6),.int .i64 (M 7),.int .i64 (M 8),.int .i64 (M 9),.int .i64 (M 10),.int .i64 (M 11)]:List Value).length):=kA oM;have dC:Hid ((prog.info? 50).map (·.size)=some ([.int .i64 (B 0),.int .i64 (B 1),.int .i64 (B 2),.int .i64 (B 3),.int .i64 (B 4),.int .i64 (B 5)]:List Value).length):=kA oM;obtain⟨X,hX⟩:∃X,X=PL h M m B p a c l:=⟨_,rfl⟩;rw[<-hX]at De ki HC;rw[<-hX];clear hX;have KP:=kA (Blk.new w 52 X.toArray);go_enter func176,ntmps176;go_wp2_with (refine wpList_load_mid rfl 46 (.tmp 3) rfl w.heap.size 1 rfl [.int .i64 (M 0),.int .i64 (M 1),.int .i64 (M 2),.int .i64 (M 3),.int .i64 (M 4),.int .i64 (M 5),.int .i64 (M 6),.int .i64 (M 7),.int .i64 (M 8),.int .i64 (M 9),.int .i64 (M 10),.int .i64 (M 11)] _ (De _ _ KP) underlying46 rfl kW ?_);refine (ziq H1 (zbe (Blk.new _ _ _) (by simp))).mono ?_;rintro e w1 ⟨rfl,k1⟩;replace KP:=kA ((KP.alloc _).keep k1);have HB:=kA (zad (zag (zaa _ _) _) k1);clear k1 H1
 cases b1 with
 | false=>
  go_wp2;go_ret;exact⟨rfl,HB⟩
 | true=>
  obtain⟨c13,c20,c21,QP⟩:=HC.out _ _ KP;have z:=KP.lt;go_wp2_with fail;refine (zmP H2 _).mono ?_;rintro e w2 ⟨rfl,rfl⟩;clear H2
  cases b2 with
  | false=>
   go_wp2;go_ret;exact⟨rfl,HB⟩
  | true=>
   go_wp2_with (refine za6 (by rfl) 50 (.tmp 13) rfl w.heap.size 14 rfl [.int .i64 (B 0),.int .i64 (B 1),.int .i64 (B 2),.int .i64 (B 3),.int .i64 (B 4),.int .i64 (B 5)] _ (ki _ _ KP) underlying50 rfl dC ?_);refine (ziw H3 (Blk.new _ _ _)).mono ?_;rintro e w3 ⟨rfl,k3⟩;replace KP:=kA ((KP.alloc _).keep k3);replace HB:=kA (zad (zag HB _) k3);clear k3 c13 c20 c21 QP z H3;obtain⟨c13,c20,c21,QP⟩:=HC.out _ _ KP;have z:=KP.lt
   cases b3 with
   | false=>
    go_wp2;go_ret;exact⟨rfl,HB⟩
   | true=>
    go_wp2_with fail;refine (zmP H4 _).mono ?_;rintro e w4 ⟨rfl,rfl⟩;clear H4
    cases b4 with
    | false=>
     go_wp2;go_ret;exact⟨rfl,HB⟩
    | true=>
     go_wp2_with fail;refine (zmP H5 _).mono ?_;rintro e w5 ⟨rfl,rfl⟩;clear H5
     cases b5 with
     | false=>
      go_wp2;go_ret;exact⟨rfl,HB⟩
     | true=>
      go_wp2_with fail;refine (zmP H6 _).mono ?_;rintro e w6 ⟨rfl,rfl⟩;clear H6;go_wp2;go_ret;exact⟨by simp,HB⟩
theorem valT(h:zzP P=b)(w:World):Calls prog 176 #[.agg (pl P).toArray] w λe w'=>e= .returned (.bool b)/\Bw w w':=by
 subst h;exact zwq _ _ _ _ _ _ _ _ w
theorem zzS(h:zjO P=b)(w:World):Calls prog 177 #[.agg (pl P).toArray] w λe w'=>e= .returned (.bool b)/\Bw w w':=by
 subst h;exact ztd P w
theorem zot(P:PT)(w:World):
  Calls prog 110 #[.agg (pl P).toArray] w λe w'=>e= .returned (.bool (zay P))/\Bw w w':=by
 rw[zgC];obtain⟨b1,h1⟩:∃b,zzP P=b:=⟨_,rfl⟩;obtain⟨b2,h2⟩:∃b,zjO P=b:=⟨_,rfl⟩;have H1:=kA h1;have H2:=kA h2;rw[h1,h2];clear h1 h2;have KP:=kA (Blk.new w 52 (pl P).toArray);have Ha:=kA (zaJ P);go_enter func110,ntmps110;go_wp2_with (refine wpList_load_mid rfl 52 (.tmp 1) rfl w.heap.size 0 rfl (pl P) _ (zac KP) underlying52 rfl Ha ?_);refine (valT H1 _).mono ?_;rintro e w1 ⟨rfl,k1⟩;replace KP:=kA (KP.keep k1);have HB:=kA (zad (zaa _ _) k1);clear k1 H1
 cases b1 with
 | false=>
  go_wp2;go_ret;exact⟨rfl,HB⟩
 | true=>
  go_wp2_with (refine za6 (by rfl) 52 (.tmp 1) rfl w.heap.size 0 rfl (pl P) _ (zac KP) underlying52 rfl Ha ?_);refine (zzS H2 _).mono ?_;rintro e w2 ⟨rfl,k2⟩;replace HB:=kA (zad HB k2);clear k2 H2;go_wp2;go_ret;exact⟨by simp,HB⟩
theorem zen(h:zay P=b)(w:World):Calls prog 110 #[.agg (pl P).toArray] w λe w'=>e= .returned (.bool b)/\Bw w w':=by
 subst h;exact zot P w
theorem zqc(h:zcw s ks=true):zeb ks=true:=by
 cases c:zeb ks with
 | true=>rfl
 | false=>rw[zjN c]at h;cases h
theorem zqd(P Q:PT)(a:Option Addr)(len cap:Nat)(ks:List Int)(w:World)(row:Row w a len ks):
  Calls prog 164 #[.agg (pl P).toArray,.agg (pl Q).toArray,.slice a len cap] w λe w'=>e= .returned (.tuple #[.agg (pl (zeG P Q ks)).toArray,.int .i64 (zfZ P Q ks)])/\Bw w w':=by
 have hJ:=kA row;clear row;obtain⟨b1,h1⟩:∃b,zay P=b:=⟨_,rfl⟩;obtain⟨b2,h2⟩:∃b,zay Q=b:=⟨_,rfl⟩;obtain⟨b3,h3⟩:∃b,zcw Q.1 ks=b:=⟨_,rfl⟩;have H1:=kA h1;have H2:=kA h2;have H3:=kA h3;have dN:Hid (zfK P Q ks=(b1 && b2 && b3)):=kA (by unfold zfK;rw[h1,h2,h3]);clear h1 h2 h3;have qW:=kA (zbL zT);have qX:=kA (zc8 zT);have qY:=kA (zcv zT);have CS:=kA (zaJ P);have Q4:=kA (zaJ Q);have KP:=kA (((Blk.new w 52 (pl P).toArray).alloc (.cells (pl Q).toArray 52)).alloc (.cells (pl zT).toArray 52));have KQ:=kA (zbe ((Blk.new (w.alloc (.cells (pl P).toArray 52)) 52 (pl Q).toArray).alloc (.cells (pl zT).toArray 52)) (g':=w.heap.size+1) (by simp));have KR:=kA (zbe (Blk.new ((w.alloc (.cells (pl P).toArray 52)).alloc (.cells (pl Q).toArray 52)) 52 (pl zT).toArray) (g':=w.heap.size+1+1) (by simp));go_enter func164,ntmps164;go_wp2_with (refine wpList_load_mid rfl 52 (.tmp 3) rfl w.heap.size 0 rfl (pl P) _ (zac KP) underlying52 rfl CS ?_);refine (zen H1 _).mono ?_;rintro e w1 ⟨rfl,k1⟩;replace KP:=kA (KP.keep k1);replace KQ:=kA (KQ.keep k1);replace KR:=kA (KR.keep k1);have HB:=kA (zad (zag (zag (zaa _ _) _) _) k1);replace hJ:=kA (zar hJ HB);clear k1
 cases b1 with
 | false=>
  have Hr:=kA (zll (P:=P) (Q:=Q) (ks:=ks) (by rw[dN.out];rfl));go_wp2_with (refine wpList_store_mid rfl 52 (.tmp 6) (.tmp 23) rfl (w.heap.size+1+1) 0 (pl zT).toArray rfl rfl (zae KR.out (by simp[qY.out])) qW.out qX.out ?_);have KW:=kA (zan (X:=pl zT) (Z:=pl zT) rfl ▸ zaf (pl zT) KR.out om);refine fin (λW=>Blk W (w.heap.size+1+1) 52 (pl zT).toArray/\Bw w W) ⟨KW.out,zab _ HB.out om⟩ ?_;rintro W ⟨kr,hb⟩;have hl:=run_loadVar_mid W (w.heap.size+1+1) 0 52 (pl zT) _ (zac kr) underlying52 rfl (zaJ zT);exact bodyPost_ret (v:= .tuple #[.agg (pl zT).toArray,.int .i64 1]) (zam results164 rfl rfl hl) rfl ⟨by rw[Hr.out.1,Hr.out.2],hb⟩
 | true=>
  go_wp2_with (refine za6 (by rfl) 52 (.tmp 4) rfl (w.heap.size+1) 0 rfl (pl Q) _ (zac KQ) underlying52 rfl Q4 ?_);refine (zen H2 _).mono ?_;rintro e w2 ⟨rfl,k2⟩;replace KP:=kA (KP.keep k2);replace KQ:=kA (KQ.keep k2);replace KR:=kA (KR.keep k2);replace HB:=kA (zad HB k2);replace hJ:=kA (zar hJ k2);clear k2
  cases b2 with
  | false=>
   have Hr:=kA (zll (P:=P) (Q:=Q) (ks:=ks) (by rw[dN.out];rfl));go_wp2_with (refine wpList_store_mid rfl 52 (.tmp 6) (.tmp 23) rfl (w.heap.size+1+1) 0 (pl zT).toArray rfl rfl (zae KR.out (by simp[qY.out])) qW.out qX.out ?_);have KW:=kA (zan (X:=pl zT) (Z:=pl zT) rfl ▸ zaf (pl zT) KR.out om);refine fin (λW=>Blk W (w.heap.size+1+1) 52 (pl zT).toArray/\Bw w W) ⟨KW.out,zab _ HB.out om⟩ ?_;rintro W ⟨kr,hb⟩;have hl:=run_loadVar_mid W (w.heap.size+1+1) 0 52 (pl zT) _ (zac kr) underlying52 rfl (zaJ zT);exact bodyPost_ret (v:= .tuple #[.agg (pl zT).toArray,.int .i64 1]) (zam results164 rfl rfl hl) rfl ⟨by rw[Hr.out.1,Hr.out.2],hb⟩
  | true=>
   have cq:w2.cell? ⟨w.heap.size+1,0,none⟩=some (.int .i64 Q.1):=KQ.cell 0;have zq:=KQ.lt;go_wp2_with fail;refine (zvc H3 _ _ _ _ hJ).mono ?_;rintro e w3 ⟨rfl,rfl⟩;clear cq zq
   cases b3 with
   | false=>
    have Hr:=kA (zll (P:=P) (Q:=Q) (ks:=ks) (by rw[dN.out];rfl));go_wp2_with (refine wpList_store_mid rfl 52 (.tmp 6) (.tmp 23) rfl (w.heap.size+1+1) 0 (pl zT).toArray rfl rfl (zae KR.out (by simp[qY.out])) qW.out qX.out ?_);have KW:=kA (zan (X:=pl zT) (Z:=pl zT) rfl ▸ zaf (pl zT) KR.out om);refine fin (λW=>Blk W (w.heap.size+1+1) 52 (pl zT).toArray/\Bw w W) ⟨KW.out,zab _ HB.out om⟩ ?_;rintro W ⟨kr,hb⟩;have hl:=run_loadVar_mid W (w.heap.size+1+1) 0 52 (pl zT) _ (zac kr) underlying52 rfl (zaJ zT);exact bodyPost_ret (v:= .tuple #[.agg (pl zT).toArray,.int .i64 1]) (zam results164 rfl rfl hl) rfl ⟨by rw[Hr.out.1,Hr.out.2],hb⟩
   | true=>
    have Ht:=kA (zs1 (P:=P) (Q:=Q) (ks:=ks) (by rw[dN.out];rfl));go_wp2_with (first | refine wpList_load_mid rfl 52 (.tmp 3) rfl w.heap.size 0 rfl (pl P) _ (zac KP) underlying52 rfl CS ?_ | refine wpList_load_mid rfl 52 (.tmp 4) rfl (w.heap.size+1) 0 rfl (pl Q) _ (zac KQ) underlying52 rfl Q4 ?_)
    refine (zp8 P Q _ _ _ ks _ (zcH H1.out) (zqc H3.out) hJ.out).mono ?_;rintro e w4 ⟨rfl,k4⟩;replace KP:=kA (KP.out.keep k4);replace KQ:=kA (KQ.out.keep k4);replace KR:=kA (KR.out.keep k4);replace HB:=kA (zad HB.out k4);clear k4 hJ;obtain⟨R,hR⟩:∃R,R=zfY P Q ks:=⟨_,rfl⟩;rw[<-hR]at Ht;rw[<-hR];clear hR;have dD:=kA (zan (X:=pl R) (Z:=pl zT) rfl ▸ zaf (pl R) KR.out (by simp[zcv]));go_wp2_with (refine wpList_store_mid rfl 52 (.tmp 6) (.tmp 27) rfl (w.heap.size+1+1) 0 (pl R).toArray rfl rfl (zae KR.out (by simp[zcv])) (zbL _) (zc8 _) ?_);refine fin (λW=>Blk W (w.heap.size+1+1) 52 (pl R).toArray/\Bw w W) ⟨dD.out,zab _ HB.out om⟩ ?_;rintro W ⟨kr,hb⟩;have hl:=run_loadVar_mid W (w.heap.size+1+1) 0 52 (pl R) _ (zac kr) underlying52 rfl (zaJ R);exact bodyPost_ret (v:= .tuple #[.agg (pl R).toArray,.int .i64 0]) (zam results164 rfl rfl hl) rfl ⟨by rw[Ht.out.1,Ht.out.2],hb⟩
def zys(P:PT)(ks:List Int):PT:=zcQ (bits .andNot .i64 P.1 (ksS ks)) P
def zeI(P:PT)(ks:List Int):PT:=if zeH P ks then zys P ks else zT
theorem zqe(P:PT)(a:Option Addr)(len cap:Nat)(ks:List Int)(w:World)(row:Row w a len ks):
  Calls prog 166 #[.agg (pl P).toArray,.slice a len cap] w λe w'=>e= .returned (.tuple #[.agg (pl (zeI P ks)).toArray,.int .i64 (zek P ks)])/\Bw w w':=by
 have hJ:=kA row;clear row;obtain⟨b1,h1⟩:∃b,zay P=b:=⟨_,rfl⟩;obtain⟨b2,h2⟩:∃b,zeb ks=b:=⟨_,rfl⟩;have H1:=kA h1;have dN:Hid (zeH P ks=(b1 && b2)):=kA (by unfold zeH;rw[h1,h2]);have Xi:Hid (ksV ks=(if b2 then ksS ks else 0)/\ksE ks=(if b2 then 0 else 1)):=kA (by unfold ksV ksE;rw[h2];exact⟨rfl,rfl⟩)
 clear h1 h2;have qW:=kA (zbL zT);have qX:=kA (zc8 zT);have qY:=kA (zcv zT);have CS:=kA (zaJ P);have KP:=kA ((Blk.new w 52 (pl P).toArray).alloc (.cells (pl zT).toArray 52));have KR:=kA (zbe (Blk.new (w.alloc (.cells (pl P).toArray 52)) 52 (pl zT).toArray) (g':=w.heap.size+1) (by simp));have HB:=kA (zag (zaa w (.cells (pl P).toArray 52)) (.cells (pl zT).toArray 52));replace hJ:=kA (zar hJ HB);go_enter func166,ntmps166;go_wp2_with fail;refine (zlo _ _ _ ks _ hJ).mono ?_;rintro e w1 ⟨rfl,rfl⟩;rw[Xi.1,Xi.2];clear Xi
 cases b2 with
 | false=>
  have Hr:Hid (zek P ks=1/\zeI P ks=zT):=kA (by unfold zek zeI;rw[dN.out];cases b1 <;> exact⟨rfl,rfl⟩)
  simp only[if_neg Bool.false_ne_true];go_wp2_with (refine wpList_store_mid rfl 52 (.tmp 4) (.tmp 20) rfl (w.heap.size+1) 0 (pl zT).toArray rfl rfl (zae KR.out (by simp[qY.out])) qW.out qX.out ?_);have KW:=kA (zan (X:=pl zT) (Z:=pl zT) rfl ▸ zaf (pl zT) KR.out om);refine fin (λW=>Blk W (w.heap.size+1) 52 (pl zT).toArray/\Bw w W) ⟨KW.out,zab _ HB.out om⟩ ?_;rintro W ⟨kr,hb⟩;have hl:=run_loadVar_mid W (w.heap.size+1) 0 52 (pl zT) _ (zac kr) underlying52 rfl (zaJ zT);exact bodyPost_ret (v:= .tuple #[.agg (pl zT).toArray,.int .i64 1]) (zam results166 rfl rfl hl) rfl ⟨by rw[Hr.out.1,Hr.out.2],hb⟩
 | true=>
  simp only[if_true];obtain⟨t,ht⟩:∃t,t=ksS ks:=⟨_,rfl⟩;rw[<-ht];have HT:=kA ht;clear ht;go_wp2_with (refine za6 (by rfl) 52 (.tmp 2) rfl w.heap.size 0 rfl (pl P) _ (zac KP) underlying52 rfl CS ?_);refine (zen H1 _).mono ?_;rintro e w2 ⟨rfl,k2⟩;replace KP:=kA (KP.keep k2);replace KR:=kA (KR.keep k2);replace HB:=kA (zad HB k2);clear k2 hJ
  cases b1 with
  | false=>
   have Hr:Hid (zek P ks=1/\zeI P ks=zT):=kA (by unfold zek zeI;rw[dN.out];exact⟨rfl,rfl⟩);go_wp2_with (refine wpList_store_mid rfl 52 (.tmp 4) (.tmp 20) rfl (w.heap.size+1) 0 (pl zT).toArray rfl rfl (zae KR.out (by simp[qY.out])) qW.out qX.out ?_);have KW:=kA (zan (X:=pl zT) (Z:=pl zT) rfl ▸ zaf (pl zT) KR.out om);refine fin (λW=>Blk W (w.heap.size+1) 52 (pl zT).toArray/\Bw w W) ⟨KW.out,zab _ HB.out om⟩ ?_;rintro W ⟨kr,hb⟩;have hl:=run_loadVar_mid W (w.heap.size+1) 0 52 (pl zT) _ (zac kr) underlying52 rfl (zaJ zT);exact bodyPost_ret (v:= .tuple #[.agg (pl zT).toArray,.int .i64 1]) (zam results166 rfl rfl hl) rfl ⟨by rw[Hr.out.1,Hr.out.2],hb⟩
  | true=>
   have Ht:Hid (zek P ks=0/\zeI P ks=zcQ (bits .andNot .i64 P.1 t) P):=kA (by unfold zek zeI zys;rw[dN.out,HT.out];exact⟨rfl,rfl⟩);have sV:=kA (zmW P (bits .andNot .i64 P.1 t));obtain⟨R,hR⟩:∃R,R=zcQ (bits .andNot .i64 P.1 t) P:=⟨_,rfl⟩;rw[<-hR]at Ht sV;clear hR;have cp:w2.cell? ⟨w.heap.size,0,none⟩=some (.int .i64 P.1):=KP.out.cell 0;have zp:=KP.out.lt;go_wp2_with (refine wpList_load_mid rfl 52 (.tmp 2) rfl w.heap.size 0 rfl (pl P) _ (zac KP.out) underlying52 rfl CS.out ?_);refine (sV.out _).mono ?_;rintro e w4 ⟨rfl,k4⟩;replace KP:=kA (KP.out.keep k4);replace KR:=kA (KR.out.keep k4);replace HB:=kA (zad HB.out k4);clear k4 cp zp sV;have dD:=kA (zan (X:=pl R) (Z:=pl zT) rfl ▸ zaf (pl R) KR.out (by simp[zcv]));go_wp2_with (refine wpList_store_mid rfl 52 (.tmp 4) (.tmp 26) rfl (w.heap.size+1) 0 (pl R).toArray rfl rfl (zae KR.out (by simp[zcv])) (zbL _) (zc8 _) ?_);refine fin (λW=>Blk W (w.heap.size+1) 52 (pl R).toArray/\Bw w W) ⟨dD.out,zab _ HB.out om⟩ ?_;rintro W ⟨kr,hb⟩;have hl:=run_loadVar_mid W (w.heap.size+1) 0 52 (pl R) _ (zac kr) underlying52 rfl (zaJ R);exact bodyPost_ret (v:= .tuple #[.agg (pl R).toArray,.int .i64 0]) (zam results166 rfl rfl hl) rfl ⟨by rw[Ht.out.1,Ht.out.2],hb⟩
theorem has3(s:Int):zcw s [0,1,2]=decide (s % 8=7):=by
 unfold zcw;have h0:zcl s 0=decide (s % 2=1):=by rw[show zcl s 0=zaW s 0 from zcq (k:=0) om];unfold zaW;simp
 have h1:zcl s 1=decide (s / 2 % 2=1):=by rw[show zcl s 1=zaW s 1 from zcq (k:=1) om];unfold zaW;simp
 have h2:zcl s 2=decide (s / 4 % 2=1):=by rw[show zcl s 2=zaW s 2 from zcq (k:=2) om];unfold zaW;simp
 simp only[all_cons,all_nil,h0,h1,h2,Bool.and_true];rw[Bool.eq_iff_iff];simp only[Bool.and_eq_true,decide_eq_true_eq];omega
def zdN(P:PT):Bool:=zay P && decide (P.1 % 8=7)
theorem zou(P:PT)(w:World):
  Calls prog 215 #[.agg (pl P).toArray] w λe w'=>e= .returned (.bool (zdN P))/\Bw w w':=by
 unfold zdN;obtain⟨b1,h1⟩:∃b,zay P=b:=⟨_,rfl⟩;obtain⟨b2,h2⟩:∃b,decide (P.1 % 8=7)=b:=⟨_,rfl⟩;have H1:=kA h1;have H2:=kA ((has3 P.1).trans h2);rw[h1,h2];clear h1 h2;have KP:=kA (Blk.new w 52 (pl P).toArray);have CS:=kA (zaJ P);go_enter func215,ntmps215;go_wp2_with (refine wpList_load_mid rfl 52 (.tmp 1) rfl w.heap.size 0 rfl (pl P) _ (zac KP) underlying52 rfl CS ?_);refine (zen H1 _).mono ?_;rintro e w1 ⟨rfl,k1⟩;replace KP:=kA (KP.keep k1);have HB:=kA (zad (zaa _ _) k1);clear k1 H1
 cases b1 with
 | false=>
  go_wp2;go_ret;exact⟨rfl,HB⟩
 | true=>
  have cp:w1.cell? ⟨w.heap.size,0,none⟩=some (.int .i64 P.1):=KP.cell 0;have zp:=KP.lt;go_wp2_with fail;refine (zvc H2 _ _ _ _ (zzD (Blk.new w1 _ _))).mono ?_;rintro e w2 ⟨rfl,rfl⟩;replace HB:=kA (zag HB (.cells #[.int .i64 0,.int .i64 1,.int .i64 2] 244));go_wp2;go_ret;exact⟨by simp,HB⟩
theorem zyt(h:eqT P Q=true):pl P=pl Q:=by
 obtain⟨h1,M,m,B,p,a,c,l⟩:=P;obtain⟨h2,N,n,C,q,b,d,k⟩:=Q;unfold eqT eqP zwc eq6 at h;simp only[Bool.and_eq_true,beq_iff_eq]at h;obtain⟨⟨⟨⟨⟨⟨⟨e1,⟨⟨⟨⟨⟨⟨⟨⟨⟨⟨⟨m0,m1⟩,m2⟩,m3⟩,m4⟩,m5⟩,m6⟩,m7⟩,m8⟩,m9⟩,m10⟩,m11⟩⟩,e2⟩,⟨⟨b0,b1⟩,b2⟩,⟨b3,b4⟩,b5⟩,e3⟩,e4⟩,e5⟩,e6⟩:=h;unfold pl PL;simp only[e1,m0,m1,m2,m3,m4,m5,m6,m7,m8,m9,m10,m11,e2,b0,b1,b2,b3,b4,b5,e3,e4,e5,e6]
theorem zwr(h:pl P=pl Q):P.1=Q.1:=by
 unfold pl PL at h;simp only[List.cons.injEq,Value.int.injEq,true_and]at h;exact h.1
theorem zhU(h:zay P=true):pl (zcQ P.1 P)=pl P:=by
 rw[zgC,Bool.and_eq_true]at h;exact zyt h.2
theorem zly(h:pl P=pl Q)(k:Int):pl (zhB P k)=pl (zhB Q k):=by
 have e:∀P:PT,pl (zhB P k)=zzO k ((pl P).set 0 (.int .i64 (zjw P.1 k))) (pl zT):=λP=>by unfold zhB;rw[<-zwe];rfl
 rw[e,e,h,zwr h]
theorem zgG:∀ (ks:List Int) {P Q:PT},pl P=pl Q->pl (zjL P ks)=pl (zjL Q ks)
 | [],_,_,h=>h
 | k::r,_,_,h=>zgG r (zly h k)
theorem zqf(P:PT)(hs:0<=s/\s<=31)(hk:kOk k=true):zhB (zcQ s P) k=zcQ (zjw s k) P:=by
 have hb:=zc9 (k:=k) hs;have e1:s % 32=s:=om;have e2:zjw s k % 32=zjw s k:=om;have f0:=zcW hs hk (j:=0) om;have f1:=zcW hs hk (j:=1) om;have f2:=zcW hs hk (j:=2) om;have f3:=zcW hs hk (j:=3) om;unfold zcQ;rw[f0,f1,f2,f3,e2];unfold zhB;rw[e1];clear f0 f1 f2 f3 e1 e2 hb hs;generalize zaW s 0=a0;generalize zaW s 1=a1;generalize zaW s 2=a2;generalize zaW s 3=a3;rcases zbf hk with rfl | rfl | rfl | rfl | rfl
 ·cases a0 <;> cases a1 <;> cases a2 <;> cases a3 <;> rfl
 ·cases a0 <;> cases a1 <;> cases a2 <;> cases a3 <;> rfl
 ·cases a0 <;> cases a1 <;> cases a2 <;> cases a3 <;> rfl
 ·cases a0 <;> cases a1 <;> cases a2 <;> cases a3 <;> rfl
 ·cases a0 <;> cases a1 <;> cases a2 <;> cases a3 <;> rfl
theorem zjT:∀ (ks:List Int) (s:Int) (P:PT),0<=s/\s<=31->zeb ks=true->zjL (zcQ s P) ks=zcQ (ks.foldl zjw s) P
 | [],_,_,_,_=>rfl
 | k::r,s,P,hs,h=>by
  unfold zeb at h;rw[all_cons,Bool.and_eq_true]at h;have:zjL (zcQ s P) (k::r)=zjL (zhB (zcQ s P) k) r:=rfl;rw[this,zqf P hs h.1,zjT r _ P (zc9 hs) h.2];rfl
theorem zws(hs:0<=s/\s<=31)(h:zeb ks=true):ks.foldl zjw s=bits .andNot .i64 s (ksS ks):=
 zwl (zjM ks s hs) (zp2 hs (zgA h)) (λj hj=>by rw[zmO ks s hs h hj,zwk hs (zgA h) hj,zln h hj])
theorem zqg(hr:zay P=true)(h:zeb ks=true):pl (zjL P ks)=pl (zcQ (ks.foldl zjw P.1) P):=by
 rw[<-zgG ks (zhU hr),zjT ks P.1 P (zcH hr) h]
theorem zqh(P:PT)(ks:List Int):pl (zeI P ks)=pl (zf0 P ks):=by
 unfold zeI zf0
 by_cases c:zeH P ks=true
 ·rw[if_pos c,if_pos c];unfold zeH at c;rw[Bool.and_eq_true]at c;rw[zqg c.1 c.2,zws (zcH c.1) c.2];rfl
 ·rw[if_neg c,if_neg c]
theorem zyu(P:PT)(a:Option Addr)(len cap:Nat)(ks:List Int)(w:World)(row:Row w a len ks):
  Calls prog 166 #[.agg (pl P).toArray,.slice a len cap] w λe w'=>e= .returned (.tuple #[.agg (pl (zf0 P ks)).toArray,.int .i64 (zek P ks)])/\Bw w w':=by
 have:=zqe P a len cap ks w row;rw[zqh]at this;exact this
theorem zov(hp:zay P=true)(hq:zay Q=true)(hk:zcl Q.1 k=true):zay (zs0 Q P k)=true:=by
 have hb:=zcH hp;have Hp:=zit hk;have Kd:=zd5 hb Hp;have f0:=zfm hb Hp (j:=0) om;have f1:=zfm hb Hp (j:=1) om;have f2:=zfm hb Hp (j:=2) om;have f3:=zfm hb Hp (j:=3) om;have f4:=zfm hb Hp (j:=4) om;obtain⟨h,M,m,B,p,a,c,l⟩:=P;obtain⟨h2,N,n,C,q,b,d,k2⟩:=Q;unfold zay zeF zfJ zgy zhA at hp hq;simp only[Bool.and_eq_true]at hp hq;obtain⟨⟨_,⟨⟨⟨k0,k1⟩,k2⟩,k3⟩,k4⟩,⟨⟨⟨⟨r0,r1⟩,r2⟩,r3⟩,r4⟩,r5⟩:=hp;obtain⟨⟨_,⟨⟨⟨_,_⟩,_⟩,_⟩,_⟩,⟨⟨⟨⟨q0,q1⟩,q2⟩,q3⟩,q4⟩,q5⟩:=hq;unfold zay zeF zfJ zgy zhA zs0;simp only[Bool.and_eq_true,decide_eq_true Kd.1,decide_eq_true Kd.2];clear Kd hb hk;rcases zbf Hp with rfl | rfl | rfl | rfl | rfl
 ·exact⟨⟨⟨trivial,trivial⟩,⟨⟨⟨by rw[f0];simp,by rw[f1];simpa[zcP,zkB] using k1⟩,by rw[f2];simpa[zcP,zkB] using k2⟩,by rw[f3];simpa[zcP,zkB] using k3⟩,by simp[zkB]⟩,⟨⟨⟨⟨q0,r1⟩,r2⟩,r3⟩,r4⟩,r5⟩
 ·exact⟨⟨⟨trivial,trivial⟩,⟨⟨⟨by rw[f0];simpa[zcP,zkB] using k0,by rw[f1];simp⟩,by rw[f2];simpa[zcP,zkB] using k2⟩,by rw[f3];simpa[zcP,zkB] using k3⟩,by simp[zkB]⟩,⟨⟨⟨⟨r0,q1⟩,q2⟩,r3⟩,r4⟩,r5⟩
 ·exact⟨⟨⟨trivial,trivial⟩,⟨⟨⟨by rw[f0];simpa[zcP,zkB] using k0,by rw[f1];simpa[zcP,zkB] using k1⟩,by rw[f2];simp⟩,by rw[f3];simpa[zcP,zkB] using k3⟩,by simp[zkB]⟩,⟨⟨⟨⟨r0,r1⟩,r2⟩,q3⟩,q4⟩,r5⟩
 ·exact⟨⟨⟨trivial,trivial⟩,⟨⟨⟨by rw[f0];simpa[zcP,zkB] using k0,by rw[f1];simpa[zcP,zkB] using k1⟩,by rw[f2];simpa[zcP,zkB] using k2⟩,by rw[f3];simp⟩,by simp[zkB]⟩,⟨⟨⟨⟨r0,r1⟩,r2⟩,r3⟩,r4⟩,q5⟩
 ·exact⟨⟨⟨trivial,trivial⟩,⟨⟨⟨by rw[f0];simpa[zcP,zkB] using k0,by rw[f1];simpa[zcP,zkB] using k1⟩,by rw[f2];simpa[zcP,zkB] using k2⟩,by rw[f3];simpa[zcP,zkB] using k3⟩,by rw[f4];simp⟩,⟨⟨⟨⟨r0,r1⟩,r2⟩,r3⟩,r4⟩,r5⟩
theorem zhV:∀ (ks:List Int) {P Q:PT},zay P=true->zay Q=true->zcw Q.1 ks=true->zay (zfY P Q ks)=true
 | [],_,_,hp,_,_=>hp
 | k::r,P,Q,hp,hq,h=>by
  unfold zcw at h;rw[all_cons,Bool.and_eq_true]at h;exact zhV r (zov hp hq h.1) hq h.2
theorem zzT:okM zI=true:=by decide
theorem zwt:zcm zI=true:=by decide
theorem zqi(hp:zay P=true)(Hp:kOk k=true):zay (zhB P k)=true:=by
 have hb:=zcH hp;have Kd:=zc9 (k:=k) hb;have f0:=zcW hb Hp (j:=0) om;have f1:=zcW hb Hp (j:=1) om;have f2:=zcW hb Hp (j:=2) om;have f3:=zcW hb Hp (j:=3) om;have f4:=zcW hb Hp (j:=4) om;obtain⟨h,M,m,B,p,a,c,l⟩:=P;unfold zay zeF zfJ zgy zhA at hp;simp only[Bool.and_eq_true]at hp;obtain⟨⟨_,⟨⟨⟨k0,k1⟩,k2⟩,k3⟩,k4⟩,⟨⟨⟨⟨r0,r1⟩,r2⟩,r3⟩,r4⟩,r5⟩:=hp;have z12:=zgx zI;have z6:=zis zI;have zM:=zzT;have zB:=zwt;have hd:=zmM k (zjw h k,M,m,B,p,a,c,l) zT;unfold zay zeF zfJ zgy zhA zhB;rw[hd];simp only[Bool.and_eq_true,decide_eq_true Kd.1,decide_eq_true Kd.2];clear Kd hb hd;rcases zbf Hp with rfl | rfl | rfl | rfl | rfl
 ·exact⟨⟨⟨trivial,trivial⟩,⟨⟨⟨by simp[zcP,zT,zkB,z12],by rw[f1];simpa[zcP,zkB] using k1⟩,by rw[f2];simpa[zcP,zkB] using k2⟩,by rw[f3];simpa[zcP,zkB] using k3⟩,by simp[zkB]⟩,⟨⟨⟨⟨zM,r1⟩,r2⟩,r3⟩,r4⟩,r5⟩
 ·exact⟨⟨⟨trivial,trivial⟩,⟨⟨⟨by rw[f0];simpa[zcP,zkB] using k0,by simp[zcP,zT,zkB,z6]⟩,by rw[f2];simpa[zcP,zkB] using k2⟩,by rw[f3];simpa[zcP,zkB] using k3⟩,by simp[zkB]⟩,⟨⟨⟨⟨r0,rfl⟩,zB⟩,r3⟩,r4⟩,r5⟩
 ·exact⟨⟨⟨trivial,trivial⟩,⟨⟨⟨by rw[f0];simpa[zcP,zkB] using k0,by rw[f1];simpa[zcP,zkB] using k1⟩,by simp[zcP,zT,zkB]⟩,by rw[f3];simpa[zcP,zkB] using k3⟩,by simp[zkB]⟩,⟨⟨⟨⟨r0,r1⟩,r2⟩,rfl⟩,rfl⟩,r5⟩
 ·exact⟨⟨⟨trivial,trivial⟩,⟨⟨⟨by rw[f0];simpa[zcP,zkB] using k0,by rw[f1];simpa[zcP,zkB] using k1⟩,by rw[f2];simpa[zcP,zkB] using k2⟩,by simp[zcP,zT,zkB]⟩,by simp[zkB]⟩,⟨⟨⟨⟨r0,r1⟩,r2⟩,r3⟩,r4⟩,rfl⟩
 ·exact⟨⟨⟨trivial,trivial⟩,⟨⟨⟨by rw[f0];simpa[zcP,zkB] using k0,by rw[f1];simpa[zcP,zkB] using k1⟩,by rw[f2];simpa[zcP,zkB] using k2⟩,by rw[f3];simpa[zcP,zkB] using k3⟩,by simp[zkB]⟩,⟨⟨⟨⟨r0,r1⟩,r2⟩,r3⟩,r4⟩,r5⟩
theorem zhW:∀ (ks:List Int) {P:PT},zay P=true->zeb ks=true->zay (zjL P ks)=true
 | [],_,hp,_=>hp
 | k::r,P,hp,h=>by
  unfold zeb at h;rw[all_cons,Bool.and_eq_true]at h;exact zhW r (zqi hp h.1) h.2
def q6:PT:=(4,zI,0,zI,3,0,true,0)
def r6:PT:=(0,zI,0,zI,1,0,false,0)
end Go.Proofs.YtlibdcmcbinfnaaGreat
