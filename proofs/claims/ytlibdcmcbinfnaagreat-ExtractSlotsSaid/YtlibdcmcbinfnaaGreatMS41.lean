/- Lemmas. -/
import Derived.Test.YtlibdcmcbinfnaaGreatMS40
set_option maxHeartbeats 100000000
set_option maxRecDepth 1000000
namespace Go.Proofs.YtlibdcmcbinfnaaGreat
open _root_.Go.Proofs.Tryz List Nat
open Go.RowKit
variable{X:Sc}{E:XS}{w:World}{F:Nat->Prop}{zs:List Int}{R:List Rc}{k m mb:Nat}{r:Rc}
theorem zxE(h:EOk X E):∀x∈E.R,Rg x.id:=by
 rcases h with ⟨n,rfl⟩ | ⟨X0,a,b,c,d,r⟩
 ·exact λx hx=>(by cases hx)
 ·intro x hx;have h1:x.id∈E.R.map Rc.id:=mem_map.2 ⟨x,hx,rfl⟩;rw[<-zd7,c.recs x.id]at h1
  cases l:zai X0.S x.id with
  | true=>exact zdk l
  | false=>
   have:=b x.id;rw[l]at this;rw[(zdj this).1]at h1
   cases h1
theorem zsj(h:EOk X E):E.S.length<=256:=by
 have h1:=zeb (m:=E.R.map Rc.id) h.si.names (λx hx=>(h.has x).1 ((zbd h.si).2 hx));rw[length_map,length_map]at h1;exact Nat.le_trans h1 h.rlen
theorem zvE{W:World}{a:Option Addr}{n:Nat}(h:Fr w W F)(row:Row w a n zs)(Kt:n=0∨∀ad,a=some ad->¬F ad.block):Row W a n zs:=zbI row Kt h
section
variable {XB:World->Nat->(Nat->Prop)->Sc->Prop} {FB:World->Nat->(Nat->Prop)->FD->Prop}
theorem zo5(hX:XC XB)(hC:FWE FB){w:World}{g gs:Nat}{F Fs:Nat->Prop}{E:XS}{X:Sc}(h0:LEB FB w g F E)(sb:XB w gs Fs X)(hap:∀b,F b->¬Fs b)(hS:SX3 X)(hE:EOk X E)(hB:BSc X 250)(Kl:EBd E 100)(hsl:∀p∈E.S,p.2<256)(ds:X.S.room<=19):
  Calls prog 32 #[.pointer (some ⟨g,0,none⟩),.pointer (some ⟨gs,0,none⟩)] w λe w'=>∃v zs er E1,e= .returned (.tuple #[v,.int .i64 er])/\ChB (LEB FB) w w' g F E1/\((er=0/\LRes w w' zs v/\Synced X E zs 0 E1)∨(er≠0/\Synced X E [] er (XSn E1.n))):=by
 obtain⟨gf,Ff,vr,mb,h,hF⟩:=h0;have VS:BSc X 900:=hB.mono om;have hin:=h.inb hC;have VT:Hid (∀W,Fr w W F->XB W gs Fs X):=kA (λW k=>hX.kb.keep_ _ _ _ _ _ sb (λb c=>k.2.2.2.2 b (hX.kb.inb _ _ _ _ sb b c) (λd=>hap b d c)));have HC:=kA hC;have YS:=kA hX;have xf:=kA h;have HF:=kA hF;have HS:=kA hS;have HE:=kA hE;have Jr:=kA hsl;have Ke:=kA VS;have Kn:Hid (∀b,F b->b<w.heap.size):=kA (λb c=>hin b ((hF b).1 c));have Js:=kA (hX.gone w gs Fs X E.since hS.wx VS sb);obtain⟨go,hgo⟩:∃go,go=goL X.S E.since:=⟨_,rfl⟩;have BR:=kA hgo;have cj:go.length<=250:=by rw[hgo];exact Nat.le_trans (zvz _ _) hB.2.1
 have Cx:Hid (Rgs go):=kA (by rw[hgo];exact zvy hS.go _);rw[<-hgo]at Js;obtain⟨ra,rcap,td,Xr,VG,-⟩:=h.rc.row zaC;have j7:=hE.rlen;obtain⟨rn,VU⟩:∃rn,rn=E.R.length:=⟨_,rfl⟩;have BS:=kA VU;rw[<-VU]at td Xr j7;have c3:w.cell? ⟨g,3,none⟩=some (.int .i64 E.since):=h.blk.cell 3;have hg:=h.blk.lt;obtain⟨sn,QN⟩:∃sn,sn=E.since:=⟨_,rfl⟩;have dK:=kA QN;rw[<-QN]at c3 Js;have NV:E.n<=200000:=by have:=Kl.2;omega
 obtain⟨D0,Zy⟩:∃D0,D0=E.D:=⟨_,rfl⟩;have HK:=hE.know hS;have te:Hid (DOk D0):=kA (Zy ▸ HK.dok);have QO:D0.L.length<=256:=Zy ▸ hE.len;obtain⟨D1,Zz⟩:∃D1,D1=zbr D0 go:=⟨_,rfl⟩;have BU:Hid (DOk D1):=kA (Zz ▸ te.out.drops go);have BW:D1.L.length<=256:=by rw[Zz];exact Nat.le_trans (zfu go D0 256 QO).1 QO
 obtain⟨l,hl⟩:∃l,l=(chL X.S sn).map (zaS X):=⟨_,rfl⟩;have NW:l.length<=250:=by
  rw[hl,length_map];have:=zvD X.S sn;have:=hB.1;omega
 have cC:Hid (∀q∈l,Rg q.id/\Rg q.par):=kA (λq hq=>by
  rw[hl]at hq;obtain⟨x,hx,rfl⟩:=mem_map.1 hq
  exact zi3 hS.wx (zeI.1 hx).1)
 obtain⟨D2,VV⟩:∃D2,D2=zcz D1 l:=⟨_,rfl⟩;have cH:D2=zaI X E.D E.since:=by rw[VV,Zz,hl,hgo,Zy,QN];rfl
 have tf:Hid (zct D1 l=0):=kA (by
  have:=znw hS.wx HK (λ_=>zfy hS.wx);rw[Zz,hl,hgo,Zy,QN]
  exact this)
 have dl:Hid (DOk D2):=kA (cH ▸ hE.take hS);have VW:D2.L.length<=256:=by rw[cH];exact ze9 hS.wx (hE.take hS).nod (hE.nodes hS)
 have VX:D2.steps<=1000000:=by rw[cH,zic];have:=Kl.1;omega
 have Yz:Hid (zed X D2.L):=kA (cH ▸ hE.nodes hS);have ye:(zaZ X E).length<=600:=Nat.le_trans (zid hS hE) (by have:=hB.2.1;omega);have Yn:Hid (zaZ X E=zbW (zah D2++go)):=kA (by unfold zaZ;rw[cH,hgo]);obtain⟨zs,Di⟩:∃zs,zs=zaZ X E:=⟨_,rfl⟩;have xe:=kA Di;rw[<-Di]at ye Yn;have zc:Hid (Rgs zs):=kA (Di ▸ zrK hS hE);have tg:Hid (zs.Pairwise (·<·)):=kA (Di ▸ zkw hS hE);have yz:=kA cH;have VY:=kA Zy;have VZ:=kA Zz;have V0:=kA VV;have Ch:=kA hl;have ti:=kA (zxE hE);have dM:=kA hE.rise;subst td;have QP:=kA ds;clear hX hC h hF sb hap hS hE hB Kl hsl ds VS hin hgo VU QN HK Zy Zz hl VV cH Di;go_enter func32,ntmps32;go_wp2_with fail;refine Js.out.mono ?_;rintro e w1 ⟨v1,rfl,⟨ia,icap,rfl,irow,iaw⟩,b1⟩;have Qo:=kA irow;have tj:=kA iaw;have Hk:=kA b1;have ca:Hid (LWE FB w1 w1 g gf mb F Ff (.slice ra rn rcap) D0 E.R (slM E.S) sn E.n):=kA (by rw[VY.out,dK.out];exact xf.out.lw HC.out HF.out b1);obtain⟨c0,-,-,-,-,DT⟩:=ca.out.reads;have Cj:=kA (HC.out.drop w1 gf Ff D0 ia go.length icap go te.out om ca.out.fl om irow (iaw.imp id (λq ad e c=>by have:=q ad e;have:=Kn.out _ ((HF.out _).2 (.inr (.inl c)));omega)) Cx.out);clear irow iaw b1 c3 hg Js xf;obtain⟨ng,V6⟩:∃ng,ng=go.length:=⟨_,rfl⟩;rw[<-V6]at Qo tj Cj cj ⊢;have BZ:=kA V6;clear V6;go_wp2_with fail;refine Cj.out.mono ?_;rintro e w2 ⟨rfl,TL,f1,TN,sub1⟩;rw[<-VZ.out]at f1;have dY:=kA (ca.out.flow f1 TN sub1);clear f1 TN sub1 Cj ca c0 DT;obtain⟨c0,-,-,c3,-,Km⟩:=dY.out.reads;have SA:=kA (And.intro c0 c3)
 have Hw:Hid (∀W,Bw w2 W->Calls prog 71 #[.pointer (some ⟨gs,0,none⟩),.int .i64 sn] W λe w'=>∃v,e= .returned v/\OwnX 15 cNd 205 w' W.heap.size v l/\Bw W w'):=kA (λW q=>by
  have h1:=zmh YS (VT W (Fr.after Hk (Fr.behind dY.fr q))) HS.wx Ke sn;rw[<-Ch.out]at h1
  exact h1)
 clear c0 c3;go_wp2;refine wp_region_held_drew (S:=λw'=>w'.cell? ⟨g,0,none⟩=some (.pointer (some ⟨gf,0,none⟩))/\w'.cell? ⟨g,3,none⟩=some (.int .i64 sn)) oM (SA.out) (λhHeld=> ?_);refine tk 0 hHeld ?_;refine tk 1 hHeld ?_;refine tk 2 hHeld ?_;refine tk 3 hHeld ?_;refine tk 4 hHeld ?_;refine tk 5 hHeld ?_;refine tk 6 hHeld ?_;refine tk 7 hHeld ?_;refine tk 8 hHeld ?_;refine tk 9 hHeld ?_;refine tk 10 hHeld ?_;refine rd 11 (λK hK=> ?_);go_simp;refine (Hw _ (zcU w2)).mono ?_;rintro e w3 ⟨v3,rfl,tn,b3⟩;have KO:Bw w2 w3:=zad (zcU w2) b3;have xd:=kA (dY.keep HC KO);obtain⟨la,lcap,rfl,-,-,lrow⟩:=tn.row zfq
 have CZ:Hid (Calls prog 70 #[.pointer (some ⟨gf,0,none⟩),.slice la l.length lcap] w3 λe w'=>e= .returned (.int .i64 0)/\ChX FB w3 w' gf TL D2):=kA (by
  have q:=HC.put w3 gf TL D1 la l.length lcap l BU om xd.fl om lrow cC;rw[tf.out,<-V0.out]at q
  exact q)
 obtain⟨nl,Jt⟩:∃nl,nl=l.length:=⟨_,rfl⟩;rw[<-Jt]at CZ ⊢;obtain⟨c0,-,-,c3,-,dT⟩:=xd.out.reads;have TP:=kA (And.intro c0 c3);clear KO b3 lrow tn dY SA Hw Km Jt c0 c3 cC tf;go_wp2_with fail;go_wp2_with fail;refine hK.out _ _ (TP.out) (λhHeld=> ?_);clear hK K;refine rd 12 (λK hK=> ?_);go_simp;refine CZ.out.mono ?_;rintro e w4 ⟨rfl,Ni,f2,TQ,sub2⟩;have Ju:=kA (xd.out.flow f2 TQ sub2);clear f2 TQ sub2 CZ xd TP dT;obtain⟨c0,-,-,c3,-,Xj⟩:=Ju.out.reads;go_wp2_with fail;go_wp2_with fail;refine hK.out _ _ (⟨c0,c3⟩) (λhHeld=> ?_);clear hK K;refine tk 13 hHeld ?_;refine wpAnyH_done oM ?_ _;clear hHeld;have tp:=kA (HC.out.run w4 gf Ni D2 dl.out om VX Ju.out.fl);go_wp2_with fail;refine tp.out.mono ?_;rintro e w5 ⟨v5,rfl,⟨ta,tcap,rfl,trow,-⟩,JL,f3,TS,sub3⟩;have zj:=kA (Ju.out.flow f3 TS (λb c=>Or.inl (sub3 b c)));have QQ:Hid (Row w5 ia ng go):=kA (zvE zj.out.fr Qo.out (tj.out.imp (λq=>by have:=BZ.out;omega) (λq ad e c=>by have:=q ad e;have:=Kn.out _ c;omega)));have yv:(zah D2).length<=256:=Nat.le_trans (zdU dl.out.wf) VW;have KB:=Blk.new w5 35 #[.slice ta (zah D2).length tcap,.slice ia ng icap];have Hf:Bw w5 (w5.alloc (.cells #[.slice ta (zah D2).length tcap,.slice ia ng icap] 35)):=zaa _ _;have Xl:=kA (zo1 w5.heap.size ta ia (zah D2).length tcap ng icap 2 (zah D2) go _ (KB.cell 0) (KB.cell 1) (zar trow Hf) (zar QQ.out Hf) om om);have CX:=kA Hf;obtain⟨nt,V7⟩:∃nt,nt=(zah D2).length:=⟨_,rfl⟩;have NY:=kA V7;rw[<-V7]at Xl CX yv ⊢;obtain⟨re,xX⟩:∃re,re=zey D2:=⟨_,rfl⟩;have dF:=kA xX;rw[<-xX];clear f3 TS sub3 tp Ju c0 c3 Xj trow KB Hf V7 xX;go_wp2_with fail;refine Xl.out.mono ?_;rintro e w6 ⟨v6,rfl,Jv,b6⟩;have tq:Bw w5 w6:=zad CX.out b6;have H9:w5.heap.size<=(w5.alloc (.cells #[.slice ta nt tcap,.slice ia ng icap] 35)).heap.size:=CX.out.size;obtain⟨base,xY⟩:∃base,base=(w5.alloc (.cells #[.slice ta nt tcap,.slice ia ng icap] 35)).heap.size:=⟨_,rfl⟩;have V8:base<=w6.heap.size:=xY ▸ b6.size;rw[<-xY]at Jv H9;have Dl:=kA Jv;have dU:=kA tq;have dx:=kA (zeL Jv om);clear Jv tq b6 xY Xl CX QQ;go_wp2_with fail;refine dx.out.mono ?_;rintro e w7 ⟨rfl,ZA,Ck⟩;have tu:(zah D2++go).mergeSort (λx y=>decide (x<=y))=zs:=by rw[Yn.out];exact zmW (List.Perm.refl _)
 rw[tu]at ZA;have tw:zs.length=nt+ng:=by
  have q:=ZA.1;rw[length_map,Nat.mul_one]at q;exact q
 rw[<-tw]at ZA;have tz:Hid (Bw w5 w7):=kA (zbl Dl H9 dU Ck);have Jw:=kA (zj.keep HC tz);obtain⟨na,ncap,rfl,nrow⟩:=ZA.row;have QR:=kA ZA;have vi:g<base/\mb<base/\(∀b,JL b->b<base)/\w1.heap.size<=base:=by
  have h1:=zj.blk.lt;have h2:=zj.mp.lt;have h3:=HC.inb _ _ _ _ zj.fl;have h4:=zj.fr.2.2.2.1;exact⟨om,om,λb c=>by have:=h3 b c;omega,om⟩
 obtain⟨B4,B5,QS,V9⟩:=vi;have B6:=kA QS;obtain⟨-,-,-,-,c4,sa⟩:=Jw.reads;obtain⟨n,hn⟩:∃n,n=zs.length:=⟨_,rfl⟩;have Xz:=kA hn;rw[<-hn]at QR ye ⊢;have qA:IntKind.i64.wrap ((E.n:Int)+(n:Int))=((E.n+n:Nat):Int):=by rw[IntKind.wrap_i64];omega
 have dE:Hid (LWE FB w1 (w7.setCell ⟨g,4,none⟩ (.int .i64 ((E.n+n:Nat):Int))) g gf mb F JL (.slice ra rn rcap) (zc4 D2) E.R (slM E.S) sn ((E.n+n:Nat):Int)):=kA (Jw.setN HC _);have xk:Hid (OwnD (w7.setCell ⟨g,4,none⟩ (.int .i64 ((E.n+n:Nat):Int))) base (.slice na n ncap) n zs):=kA (zdQ QR (λb e=>(zaR w7 g 4 _).block b (World.ownsRow.lt QR b e).2 (by intro q;injection q with q;have:=(World.ownsRow.lt QR b e).1;omega)));have f4:w7.frozen? ⟨g,4,none⟩=false:=Jw.blk.frozen 4;obtain⟨nn,KL⟩:∃nn:Int,nn=((E.n+n:Nat):Int):=⟨_,rfl⟩;rw[<-KL]at qA dE xk;have se:=kA KL;obtain⟨en,VI⟩:∃en:Int,en=(E.n:Int):=⟨_,rfl⟩;rw[<-VI]at qA c4;have sg:base<=w7.heap.size:=Nat.le_trans (Nat.le_trans V8 (Nat.le_refl _)) Ck.size;clear ZA Ck tu nrow dx Dl dU tz Jw zj QS hn KL VI QR Yn;go_upto_region 10 with fail;refine fin (λW=>LWE FB w1 W g gf mb F JL (.slice ra rn rcap) (zc4 D2) E.R (slM E.S) sn nn/\OwnD W base (.slice na n ncap) n zs/\base<=W.heap.size) ⟨dE,xk.out,Nat.le_trans sg (zaR w7 g 4 _).size⟩ ?_;clear dE xk c4 f4 sa;rintro w8 ⟨l8,o8,B7⟩;have dE:=kA l8;have xk:=kA o8;clear l8 o8 tw;have C5:Hid (ChB (LEB FB) w w8 g F ⟨zc4 D2,E.R,E.S,sn,E.n+n⟩):=kA (dE.done Hk rfl rfl rfl rfl se.symm)
 by_cases xX:re=0
 ·have dV:Hid (zey D2=0):=kA (dF.out ▸ xX);subst xX;clear C5;obtain⟨c0,c1,-,-,-,Xu⟩:=dE.out.reads;have xZ:Row w8 na n zs:=by
   obtain⟨a',cap',e,r⟩:=xk.row;injection e with e1 e2 e3;rw[e1];exact r
  have QT:=kA xZ;have tA:=kA (zsc (o:=oX X D2.L) (eo:=eX X D2.L) (cap:=ncap) YS HC (VT w8 (Fr.after Hk dE.fr)) dE.fl c0 xZ HS.wx Ke dl.run (by show D2.L.length<=300;omega) om zc (λx=>zut HS.wx dl Yz dV x));clear c0 xZ;go_wp2_with fail;refine tA.mono ?_;rintro e w9 ⟨v9,er,rfl,qD,tB,b9⟩;have zk:=kA b9;have yU:=kA (dE.keep HC b9);have Yf:=kA qD;have B8:=kA tB;clear b9 qD tB tA c1 Xu
  by_cases sj:er=0
  ·subst sj;have CQ:=kA (B8 rfl);obtain⟨fa,fcap,sr,Z7,NZ,-⟩:=CQ.row zaC;obtain⟨fr,kE⟩:∃fr,fr=zs.filterMap (oX X D2.L):=⟨_,rfl⟩;have Dn:=kA kE;have jL:fr.length<=n:=by rw[kE,Xz.out];exact length_filterMap_le _ _
   rw[<-kE]at CQ sr Z7;obtain⟨nf,Zq⟩:∃nf,nf=fr.length:=⟨_,rfl⟩;have B9:=kA Zq;rw[<-Zq]at sr Z7 jL;subst sr;have su:Hid (zdp fr):=kA (by rw[kE];exact zdn (λx r q=>zkt q) tg)
   have sw:Hid (fr.length<=19):=kA (by
    have h1:=zkF HS.wx (us:=fr.map Rc.id) (List.pairwise_map.2 (su.imp (fun {a b} h e=>om))) (λu m=>by
     rw[kE,zfa (λx r q=>zkt q)]at m
     cases l:zai X.S u with
     | true=>rfl
     | false=>
      have hN:=Yz.out u;rw[l,if_neg (by simp)]at hN;have m2:=m.2;rw[(zdj hN).1]at m2
      cases m2)
    rw[length_map]at h1
    exact Nat.le_trans h1 QP)
   have Jx:Hid (Rgs (fr.map Rc.id)):=kA (λx hx=>by
    rw[kE,zfa (λx r q=>zkt q)]at hx
    exact zc x hx.1)
   obtain⟨-,c1,-,-,-,CS⟩:=yU.reads;have Xo:zb4 w9 ra rn E.R:=by
    obtain⟨a',cap',e,_,_,r⟩:=yU.rc.row zaC;injection e with e1 e2 e3;rw[e1,e2];exact r
   have yn:=kA (zoG ra rn rcap E.R na n ncap zs w9 Xo (zar QT zk) om om ti zc);clear Xo kE Zq;go_wp2_with fail;refine yn.mono ?_;rintro e Ss ⟨JK,rfl,QU,JI⟩;obtain⟨xa,xcap,rfl,jY,tC,Jq⟩:=QU.row zaC;have tE:zb4 Ss fa nf fr:=by
    obtain⟨a',cap',e,_,_,r⟩:=(CQ.keep JI).row zaC;injection e with e1 e2 e3;rw[e1,e2];exact r
   have sy:(zht E.R zs).length<=256:=by
    have q:=length_filter_le (λr:Rc=> !decide (r.id∈zs)) E.R;unfold zht;have:=BS.out;omega
   have D9:=kA (zuJ xa (zht E.R zs).length xcap (zht E.R zs) fa nf fcap fr Ss Jq tE jY tC (zt2 dM zs) om (by rw[B9.out];exact sw));have yA:=kA JI;obtain⟨nx,QF⟩:∃nx,nx=(zht E.R zs).length:=⟨_,rfl⟩;rw[<-QF]at D9 ⊢;have Xs:=kA QF;clear QU JI jY tC Jq tE QF yn c1 CS sy;go_wp2_with fail;refine D9.mono ?_;rintro e Yv ⟨mP,R',rfl,CN,jv⟩;obtain⟨va,vcap,QV,-,-,-⟩:=CN.1.row zaC;obtain⟨nr,tF⟩:∃nr,nr=R'.length:=⟨_,rfl⟩;rw[<-tF]at QV;subst QV;clear tF;have nb:=kA CN;have yB:=kA ((yU.keep HC yA).keep HC.out jv);have sA:Hid (Bw w8 Yv):=kA (zad zk (zad yA jv));have nc:w8.heap.size<=Ss.heap.size:=Nat.le_trans zk.size yA.size;have C1:Hid (LWE FB w1 (Yv.setCell ⟨g,1,none⟩ (.slice va nr vcap)) g gf mb F JL (.slice va nr vcap) (zc4 D2) R' (slM E.S) sn nn):=kA (yB.setR HC CN.1 (λb c=>by have:=B6.out b c;omega) om om om);have f1:Yv.frozen? ⟨g,1,none⟩=false:=yB.blk.frozen 1;obtain⟨-,c1,-,-,-,yt⟩:=yB.reads
   have zl:Hid (∀W,(∀b,base<=b->b<Yv.heap.size->W.heap[b]? =Yv.heap[b]?)->OwnD W base (.slice na n ncap) n zs/\zb4 W fa nf fr):=kA (λW q=>by
    have o1:=zdQ xk (λb e=>sA.block b (World.ownsRow.lt xk b e).2);have o2:=(CQ.keep yA).keep jv;refine⟨zdQ o1 (λb e=>q b (World.ownsRow.lt o1 b e).1 (World.ownsRow.lt o1 b e).2),?_⟩;obtain⟨a',cap',e,_,_,r⟩:=(o2.same (λb e=>q b (by have:=(o2.lt b e).1;omega) (o2.lt b e).2)).row zaC;injection e with e1 e2 e3
    rw[e1,e2];exact r)
   have QW:Hid (∀W,OwnD W base (.slice na n ncap) n zs->Row W na n zs):=kA (λW o=>by
    obtain⟨a',cap',e,r⟩:=o.row;injection e with e1 e2 e3
    rw[e1];exact r)
   have tG:Hid (Wk (oX X D2.L) E.R zs R'):=kA (zur (λx r q=>zkt q) tg CN.2.2.1 (λk=>by rw[CN.2.2.2 k,Dn.out]))
   have sB:Hid (∀k,k∈R'.map Rc.id↔if k∈zs then k∈fr.map Rc.id else k∈E.R.map Rc.id):=kA (λk=>by
    rw[zoP tG k]
    by_cases c:k∈zs
    ·rw[if_pos c,if_pos c,Dn.out,zfa (λx r q=>zkt q)];exact⟨λq=>⟨c,q⟩,λq=>q.2⟩
    ·rw[if_neg c,if_neg c])
   have ZB:=HE.si;have tH:SI (zf0 (R'.map Rc.id) E.S):=ZB.filter _;have QX:=zxv (zs:=zs) (fr:=fr) ZB HE.has sB
   have QY:=zr3 (zs:=zs) ZB HE.has CN.2.2.1 su sB (λk hk=>by
    rw[Dn.out,zfa (λx r q=>zkt q)]at hk
    exact hk.1)
   have QA:∀p∈zf0 (R'.map Rc.id) E.S,Rg p.1/\0<=p.2/\p.2<1000:=λp hp=>by
    have hp':p∈E.S:=(mem_filter.1 hp).1;have h1:=Jr.out p hp';have h2:p.1∈E.R.map Rc.id:=(HE.out.has p.1).1 ((zbd ZB).2 (mem_map.2 ⟨p,hp',rfl⟩));obtain⟨r,hr,e⟩:=mem_map.1 h2;exact⟨e ▸ ti.out r hr,ZB.pos p hp',om⟩
   have XH:(zf0 (R'.map Rc.id) E.S).length<=1000:=Nat.le_trans (length_filter_le _ _) (Nat.le_trans (zsj HE) om);have dD:=zaR Yv g 1 (.slice va nr vcap)
   have Yr:Hid (∀W,W=Yv.setCell ⟨g,1,none⟩ (.slice va nr vcap)->Calls prog 78 #[.pointer (some ⟨g,0,none⟩),.slice na n ncap,.slice fa nf fcap] W λe w'=>e= .returned (.tuple #[])/\MF sK13 w' mb (slM (zcN (R'.map Rc.id) E.S))/\W.grownBy w' (some mb)):=kA (λW hW=>by
    subst hW;rw[QY];refine zo4 C1.mp (kA (λW q=> ?_)) su tH QX zc Jx QA XH om om;have h3:=zl.out W (λb h1 h2=>(q.block b (Nat.lt_of_lt_of_le h2 dD.size) (by intro e;injection e with e;omega)).trans (dD.block b h2 (by intro e;injection e with e;omega)));have hk:=C1.blk.same (q.block g C1.blk.lt (by intro e;injection e with e;exact C1.mg e.symm))
    exact⟨QW W h3.1,h3.2,hk.cell 2,hk.lt⟩)
   have QZ:Hid (∀W,(Yv.setCell ⟨g,1,none⟩ (.slice va nr vcap)).grownBy W (some mb)->OwnD W base (.slice na n ncap) n zs):=kA (λW q=>(zl W (λb h1 h2=>(q.block b (Nat.lt_of_lt_of_le h2 dD.size) (by intro e;injection e with e;omega)).trans (dD.block b h2 (by intro e;injection e with e;omega)))).1);clear CN jv D9 dD ZB tH QX QY QA XH zl QW sB;go_upto_region 16 with fail;go_wp2_with fail;refine (Yr _ rfl).mono ?_;rintro e Su ⟨rfl,Q0,zm⟩;have zt:=kA (C1.setM HC zm Q0);have zu:=kA (QZ Su zm);have tJ:=kA (YS.tick Su gs Fs X HS.wx Ke (VT Su (Fr.after Hk zt.fr)));clear Q0 zm Yr QZ C1 yB c1 f1 yt;go_wp2_with fail;refine tJ.mono ?_;rintro e ZI ⟨rfl,Sv⟩;have yC:=kA (zt.keep HC Sv);have yD:Hid (OwnD ZI base (.slice na n ncap) n zs):=kA (zdQ zu (λb e=>Sv.block b (World.ownsRow.lt zu b e).2));have f3:ZI.frozen? ⟨g,3,none⟩=false:=yC.blk.frozen 3;obtain⟨-,-,-,c3,-,za⟩:=yC.reads;have Q1:=kA (yC.setT HC X.S.now);have dD:=zaR ZI g 3 (.int .i64 X.S.now);have Q2:Hid (OwnD (ZI.setCell ⟨g,3,none⟩ (.int .i64 X.S.now)) base (.slice na n ncap) n zs):=kA (zdQ yD (λb e=>dD.block b (World.ownsRow.lt yD b e).2 (by intro q;injection q with q;have:=(World.ownsRow.lt yD b e).1;omega)));have Jb:w.heap.size<=base:=Nat.le_trans Hk.size V9;have DY:Hid (ChB (LEB FB) w (ZI.setCell ⟨g,3,none⟩ (.int .i64 X.S.now)) g F ⟨zc4 D2,R',zcN (R'.map Rc.id) E.S,X.S.now,E.n+n⟩/\LRes w (ZI.setCell ⟨g,3,none⟩ (.int .i64 X.S.now)) zs (.slice na n ncap)/\Synced X E zs 0 ⟨zc4 D2,R',zcN (R'.map Rc.id) E.S,X.S.now,E.n+n⟩):=kA ⟨Q1.done Hk rfl rfl rfl rfl se.symm,LRes.of9 Q2 Jb,.inr (.inr ⟨by rw[<-yz.out];exact dV.out,by rw[<-yz.out,<-xe.out];exact Yf.symm,xe.out,rfl,R',by rw[<-yz.out,<-xe.out];exact tG.out,by rw[<-yz.out,<-xe.out,<-Xz.out]⟩)⟩;obtain⟨nw,Dm⟩:∃nw,nw=X.S.now:=⟨_,rfl⟩;rw[<-Dm]at DY ⊢;clear Sv dD zt zu tJ yC yD Q1 Q2 Dm Jb;go_wp2;go_ret2;exact⟨_,zs,0,_,rfl,DY.1,.inl ⟨rfl,DY.2.1,DY.2.2⟩⟩
  ·have KH:=kA sj;have DY:Hid (∃E1:XS,ChB (LEB FB) w w9 g F E1/\Synced X E [] er (XSn E1.n)):=kA ⟨⟨zc4 D2,E.R,E.S,sn,E.n+n⟩,yU.done Hk rfl rfl rfl rfl se.symm,.inr (.inl ⟨by rw[<-yz.out];exact dV.out,by rw[<-yz.out,<-xe.out,<-Yf.out];exact sj,rfl,by rw[<-yz.out,<-xe.out];exact Yf.out,by rw[<-xe.out,<-Xz.out]⟩)⟩;clear dE xk yU;go_wp2;go_ret2;obtain⟨E1,k1,k2⟩:=DY;exact⟨_,[],er,E1,rfl,k1,.inr ⟨KH,k2⟩⟩
 ·have KH:=kA xX;have DY:Hid (∃E1:XS,ChB (LEB FB) w w8 g F E1/\Synced X E [] re (XSn E1.n)):=kA ⟨_,C5.out,.inl ⟨by rw[<-yz.out,<-dF.out];exact xX,rfl,by rw[<-yz.out];exact dF.out,by rw[<-xe.out,<-Xz.out]⟩⟩;clear dE xk C5;go_wp2;go_ret2;obtain⟨E1,k1,k2⟩:=DY;exact⟨_,[],re,E1,rfl,k1,.inr ⟨KH,k2⟩⟩
end
def zx1(x:Int):List Value:=[.int .i64 x]
theorem zsk(x:Int):(zx1 x).length=1:=rfl
theorem zo6:(prog.info? 3).map (λi=>(i.zero,i.size,i.bytes))=some (some (.int .i64 0),1,8):=oM
def Uc(U:Nat->Bool):Array Value:=((range 12).map λi=>Value.bool (U i)).toArray
theorem zAt(U:Nat->Bool){i:Nat}(h:i<12):(Uc U)[i]? =some (.bool (U i)):=by
 unfold Uc;rw[getElem?_toArray,getElem?_map,getElem?_range h];rfl
theorem zzc(U:Nat->Bool)(n:Nat)(b:Bool):(Uc U).setIfInBounds n (.bool b)=Uc (λi=>if i=n then b else U i):=by
 apply Array.toList_inj.1;apply ext_getElem?;intro i;unfold Uc;simp only[setIfInBounds_toArray,getElem?_set,getElem?_map,length_map,length_range]
 by_cases h:i<12
 ·rw[getElem?_range h]
  by_cases e:n=i
  ·subst e;simp[h]
  ·rw[if_neg e];simp only[Option.map_some];rw[if_neg (λq=>e q.symm)]
 ·rw[getElem?_eq_none (by simp;omega)]
  by_cases e:n=i
  ·subst e;simp[h]
  ·rw[if_neg e];rfl
def UkB(S:SlR)(R:List Rc)(k i:Nat):Bool:=decide ((i:Int)∈(R.take k).map (λr=>zau S r.id))
theorem zxF{S:SlR}(h:R[k]? =some r)(hm:zau S r.id=(m:Int)):(λi=>if i=m then true else UkB S R k i)=UkB S R (k+1):=funext λi=>by
 unfold UkB;rw[take_add_one,h,map_append,eq_comm]
 by_cases e:i=m
 ·subst e;rw[if_pos rfl,decide_eq_true];exact mem_append.2 (.inr (by simp[hm]))
 ·rw[if_neg e,decide_eq_decide,mem_append];constructor
  ·rintro (q | q)
   ·exact q
   ·simp[hm]at q;omega
  ·exact Or.inl
theorem zxG{S:SlR}(hS:SI S)(hR:zdp R)(hh:∀y∈R.map Rc.id,0<=zau S y){k m:Nat}{r:Rc}(h:R[k]? =some r)(hm:zau S r.id=(m:Int)):UkB S R k m=false:=by
 unfold UkB;rw[decide_eq_false_iff_not,mem_map];rintro⟨q,hq,e⟩;obtain⟨j,hj,EI⟩:=mem_iff_getElem.1 hq;rw[length_take]at hj;rw[getElem_take]at EI;have hk:=(List.getElem?_eq_some_iff.1 h).1;have hid:q.id=r.id:=zt7 hS (hh _ (mem_map.2 ⟨q,mem_of_mem_take hq,rfl⟩)) (by rw[e,hm]);have:=List.pairwise_iff_getElem.1 hR j k om hk om;rw[EI,(List.getElem?_eq_some_iff.1 h).2]at this;omega
section
variable {EB:World->Nat->(Nat->Prop)->XS->Prop} {XB:World->Nat->(Nat->Prop)->Sc->Prop}
theorem zml(hX:XC XB)(hE:EC EB XB)(a:Option Addr)(len cap:Nat)(xs:List S13)(w:World)(row:ARow13 w a len xs):
  Calls prog 5 #[.slice a len cap] w λe w'=>e= .returned (.bool true)/\Bw w w':=by
 have Hy:=row.2.1;have hJ:=kA row;have mT:=kA hX;have Me:=kA hE;have MD:=kA (zo0 a len cap xs w row);have Mo:=kA (zmi hX hE);clear row hX hE;go_enter func5,ntmps5;go_wp2_with fail;refine MD.mono ?_;rintro e w1 ⟨ok,rfl,H8,rfl⟩;have dJ:=kA H8;clear H8 MD;go_wp2_with fail;refine (mT.new w 12 om).mono ?_;rintro e w1 ⟨gs,Fs,rfl,sb,hF,b1⟩
 cases ok with
 | false=>
  have HB:=kA b1;clear sb hF b1;go_wp2_with fail;refine (Mo _).mono ?_;rintro e w2 ⟨rfl,b2⟩;replace HB:=kA (zad HB b2);clear b2;go_wp2;go_ret;exact⟨rfl,HB⟩
 | true=>
  have rK:=kA sb;have HB:=kA (And.intro hF b1);clear sb hF b1;obtain⟨E4,M8⟩:=dJ.out rfl;have M9:=kA M8;clear M8 dJ;go_wp2_with fail;refine (Me.new _).mono ?_;rintro e w2 ⟨g,F,rfl,eb,eZ,b2⟩;have Q8:Hid (St13 EB XB w w2 g gs F Fs XS0 (Sc0 12) 0 0):=kA ⟨⟨eb,mT.kb.keep rK b2,λb c d=>by have:=eZ b c;have:=mT.kb.inb _ _ _ _ rK b d;omega,zad HB.2 b2,λb c=>Nat.le_trans HB.2.size (eZ b c),HB.1⟩,SX3.zero om,.inl ⟨0,rfl⟩,BSc.zero om,⟨Nat.le_refl _,Nat.le_refl _⟩,λp hp=>(by cases hp),rfl⟩;clear eb eZ b2 rK HB;go_wp2
  go_loopw [7,8,9,10,11,12,13,14,15,16,17] (λv7 _ _ _ _ _ _ _ _ _ _ wr=>∃ (j:Nat) (F Fs:Nat->Prop) (E:XS) (X:Sc),j<=len/\v7= .int .i64 j/\St13 EB XB w wr g gs F Fs E X (4*j) j) (λv7 _ _ _ _ _ _ _ _ _ _ _=>len - (intOf v7).toNat)
  case atStart=>exact⟨0,F,Fs,XS0,Sc0 12,om,rfl,Q8⟩
  case round=>
   clear Q8 F Fs;obtain⟨j,F,Fs,E,X,hj,rfl,hs⟩:=hrel;have HS:=kA hs;clear hs
   by_cases hlt:j<len
   ·have j0:(0:Int)<=(j:Int):=om;have j1:(j:Int)<(len:Int):=om;obtain⟨b,off,x,rfl,hx,Jp,H8⟩:=hJ.at_ hlt;have Mt:x.1.n<=40:=M9.out x (mem_of_getElem? hx);have Hb:=kA (zua x.1);have Cb:=World.block_lt_of_cell? _ _ (Jp 0 _ rfl)
    have ef:Hid (∀u,Bw w u->u.rangeAt b (off+j*30) (c11 x.1)/\u.cell? ⟨b,off+j*30+28,none⟩=some (.bool x.2.1)/\b<u.heap.size):=kA (λu q=>by
     have hr:=zaP Jp (q.block b Cb)
     refine⟨λi v hv=>hr i v (by unfold c13;rw[getElem?_append_left (List.getElem?_eq_some_iff.1 hv).1];exact hv),hr 28 _ rfl,Nat.lt_of_lt_of_le Cb q.size⟩)
    have MQ:Hid (∀W F Fs E X m k,m<=240->St13 EB XB w W g gs F Fs E X m k->Calls prog 18 #[.pointer (some ⟨gs,0,none⟩),.agg (c11 x.1).toArray] W λe w'=>(∃v,e= .returned v)/\∃Sp X',St13 EB XB w w' g gs F Sp E X' (m+2) k):=kA (λW F Fs E X m k hm h=>(h.act mT Me.kb hm H8 Mt).mono (λe w' ⟨q1,Sp,q2⟩=>⟨q1,Sp,_,q2⟩));obtain⟨sy,EJ⟩:∃sy,sy=x.2.1:=⟨_,rfl⟩;rw[<-EJ]at ef;obtain⟨Xc,EK⟩:∃Xc,Xc=c11 x.1:=⟨_,rfl⟩;rw[<-EK]at ef Hb MQ;clear hx Jp H8 Mt Cb EJ EK hJ M9;obtain⟨X4,-,Ht⟩:=ef.out _ HS.du.be;have dV:=kA X4;clear X4
    go_wp2_with (first
     | refine wpList_load_mid rfl 55 (.tmp 44) rfl b (off+j*30) rfl Xc _ dV underlying55 rfl Hb ?_)
    refine (MQ _ _ _ _ _ _ _ om HS).mono ?_;rintro e w3 ⟨⟨v,rfl⟩,Nb,X2,s2⟩;have Dr:=kA s2;clear s2 HS MQ dV Ht;obtain⟨-,e8,Ht⟩:=ef.out _ Dr.du.be
    cases sy with
    | false=>
     have dK:=kA (Dr.mono (m':=4*(j+1)) (k':=j+1) om om);clear Dr;go_wp2;go_roundw
     case rel=>exact⟨j+1,F,Nb,E,X2,om,by go_num,dK⟩
     case measure=>simp[intOf] <;> omega
    | true=>
     have tP:=kA (St13.recs Me Dr.du.eb Dr.ek);have D9:Hid (∀b,(F b∨Nb b)->b<w3.heap.size):=kA (λb c=>c.elim (Me.kb.inb _ _ _ _ Dr.du.eb b) (mT.kb.inb _ _ _ _ Dr.du.xb b));have E8:E.R.length<=256:=Dr.ek.rlen;obtain⟨nw,Dm⟩:∃nw,nw=E.R.length:=⟨_,rfl⟩;rw[<-Dm]at tP E8;have yo:=kA Dm;clear Dm;go_wp2_with fail;refine tP.mono ?_;rintro e w4 ⟨wa,wcap,rfl,wrow,waw,b4⟩;have rE:=kA wrow;have E9:Hid (∀ad,wa=some ad->¬(F ad.block∨Nb ad.block)):=kA (λad e c=>by have h1:=waw ad e;have h3:=D9.out _ c;omega);replace Dr:=kA (Dr.keep Me.kb mT.kb b4);replace D9:=kA (λb c=>Nat.lt_of_lt_of_le (D9 b c) b4.size:∀b,(F b∨Nb b)->b<w4.heap.size);clear wrow waw b4 tP e8 Ht ef Hb;obtain⟨sl,hsl⟩:∃sl:Rc->Int,sl=λr=>zau E.S r.id:=⟨_,rfl⟩;have Jr:=kA hsl
     have Mf:Hid (∀W y,Bw w4 W->y∈E.R->Calls prog 22 #[.pointer (some ⟨g,0,none⟩),.int .i64 y.id] W λe w'=>e= .returned (.int .i64 (sl y))/\Bw W w'):=kA (λW y q hy=>by
      rw[hsl]
      exact Me.slot W g F E y.id (Me.kb.keep Dr.du.eb q) Dr.ek.si (zxE Dr.ek y hy))
     clear hsl;go_wp2
     go_loopw [9,10] (λv9 JK wq=>∃q:Nat,q<=nw/\JK= .int .i64 q/\OwnX 1 zx1 3 wq w4.heap.size v9 ((E.R.take q).map sl)/\Bw w4 wq) (λ_ JK _=>nw - (intOf JK).toNat)
     case atStart=>exact⟨0,om,rfl,OwnX.nil _ _ _ _ _,Below.refl _ _⟩
     case round=>
      obtain⟨q,hq,rfl,ho,hb⟩:=hrel;have HO:=kA ho;have HB:=kA hb;clear ho hb
      by_cases gd:q<nw
      ·have q0:(0:Int)<=(q:Int):=om;have q1:(q:Int)<(nw:Int):=om;obtain⟨rb,roff,r,rfl,yT,Mi,Ci⟩:=(rE.keep HB).at_ gd;have cid:wr.cell? ⟨rb,roff+q*12,none⟩=some (.int .i64 r.id):=Ci 0 _ rfl;have kM:Hid ((E.R.take (q+1)).map sl=(E.R.take q).map sl++[sl r]):=kA (by rw[take_add_one,Mi,map_append];rfl);have mX:=kA (Mf wr r HB (mem_of_getElem? Mi));have Y4:((E.R.take q).map sl).length<=2000:=by rw[length_map,length_take];omega
       obtain⟨L8,Qq⟩:∃L,L=(E.R.take q).map sl:=⟨_,rfl⟩;rw[<-Qq]at HO kM Y4;obtain⟨rid,ck⟩:∃rid,rid=r.id:=⟨_,rfl⟩;rw[<-ck]at cid mX;obtain⟨sv,EL⟩:∃sv,sv=sl r:=⟨_,rfl⟩;rw[<-EL]at kM mX;clear Ci Mi Qq ck EL;go_wp2_with fail;refine mX.mono ?_;rintro e w5 ⟨rfl,b5⟩;have j3:=kA b5;have gG:w4.heap.size<=w5.heap.size:=Nat.le_trans HB.size b5.size;clear b5 cid yT mX;go_wp2_with (at_builtin;refine zbu rfl (.tmp 61) (.tmp 69) 90 8 (.int .i64 0) rfl underlying90 zo6 rfl (by decide) (by decide) zsk sv (λu hu=>by unfold zx1 at hu;rw[mem_singleton.1 hu];rfl) rfl ((HO.keep j3).keep (zaa _ _)) w5.heap.size 1 rfl (zac (Blk.new w5 3 _)) Y4 (by simp;omega) ?_);intro v' w6 k1 k2 k3;have K:Hid (OwnX 1 zx1 3 w6 w4.heap.size v' ((E.R.take (q+1)).map sl)/\Bw w4 w6):=kA ⟨by rw[kM.out];exact k1,zaO (zad (zad HB j3) (zaa _ _)) k2 (λb e=>(HO.lt b e).1)⟩;clear k1 k2 k3 HO HB j3 kM;go_wp2;go_roundw
       case rel=>exact⟨q+1,om,by go_num,K.1,K.2⟩
       case measure=>simp[intOf] <;> omega
      ·obtain rfl:q=nw:=om;have q2:¬(q:Int)<(q:Int):=om
       have B8:Hid (OwnX 1 zx1 3 wr w4.heap.size u9 (E.R.map sl)):=kA (by
        have h1:=HO.out;rw[take_of_length_le (by rw[yo.out];exact Nat.le_refl _)]at h1
        exact h1)
       have Yy:=kA (Dr.keep Me.kb mT.kb HB);have kC:=kA (rE.keep HB);have Bg:=kA (Yy.sync Me om om);obtain⟨sa,scap,SZ,-,-,-⟩:=B8.row zsk;have em:(E.R.map sl).length=q:=by rw[length_map];exact yo.symm
       rw[em]at SZ;subst SZ;clear HO HB Dr rE Mf em;go_wp2_with fail;refine Bg.mono ?_;rintro e w7 ⟨a7,n7,c7,z7,f,E1,F1,EU,rfl,-,-,EM,s7,-,-,El,-⟩;have Mg:=kA s7;have EO:=kA EM;have Ea:=kA (zuH kC El E9);have QR:Hid (OwnX 1 zx1 3 w7 w4.heap.size (.slice sa q scap) (E.R.map sl)):=kA (B8.same (λb e=>El.2.2.2.2 b (B8.lt b e).2 (λc=>by have:=(B8.lt b e).1;have:=D9.out b c;omega)));have cQ:=Yy.ek;have KC:=kA cQ;clear EM s7 El Bg Yy kC B8 cQ;have tP:=kA (St13.recs Me Mg.du.eb Mg.ek);have CJ:E1.R.length<=256:=Mg.ek.rlen;obtain⟨nn,KL⟩:∃nn,nn=E1.R.length:=⟨_,rfl⟩;rw[<-KL]at tP CJ;have Xz:=kA KL;clear KL;go_wp2_with fail;refine tP.mono ?_;rintro e w8 ⟨na,ncap,rfl,nrow,-,b8⟩;have gh:=kA nrow;replace Mg:=kA (Mg.keep Me.kb mT.kb b8);replace Ea:=kA (Ea.keep b8);replace QR:=kA (QR.keep b8);clear nrow b8 tP;go_upto_region 22 with fail;have EP:Hid (Blk (w8.alloc (.cells (Uc (UkB E1.S E1.R 0)) 93)) w8.heap.size 93 (Uc (UkB E1.S E1.R 0))/\Bw w8 (w8.alloc (.cells (Uc (UkB E1.S E1.R 0)) 93))):=kA ⟨Blk.new w8 _ _,zaa _ _⟩;have hz:Uc (UkB E1.S E1.R 0)= #[.bool false,.bool false,.bool false,.bool false,.bool false,.bool false,.bool false,.bool false,.bool false,.bool false,.bool false,.bool false]:=by
        have e:UkB E1.S E1.R 0=λ_=>false:=funext λi=>by unfold UkB;simp
        rw[e];rfl
       refine fin (λW=>Blk W w8.heap.size 93 (Uc (UkB E1.S E1.R 0))/\Bw w8 W) (by rw[<-hz];exact EP) ?_;clear EP hz;obtain⟨gu,eJ⟩:∃gu,gu=w8.heap.size:=⟨_,rfl⟩;have gj:=kA eJ;rw[<-eJ];rintro w9 ⟨ku,EQ⟩;have mY:=kA ku;have Ke:Hid (Bw w8 w9):=kA (by first | exact EQ | (rw[<-eJ];exact EQ))
       have Eb:Hid (SI E1.S):=kA Mg.ek.si;have dM:Hid (zdp E1.R):=kA Mg.ek.rise;have CK:Hid (∀y∈E1.R.map Rc.id,0<=zau E1.S y):=kA (λy hy=>(Mg.ek.has y).2 hy);have Ec:Hid (∀y∈E1.R.map Rc.id,zau E1.S y<12):=kA (λy hy=>Mg.lo _ (ze3 Eb (CK y hy)));have Mf:Hid (∀W y,Bw w8 W->y∈E1.R->Calls prog 22 #[.pointer (some ⟨g,0,none⟩),.int .i64 y.id] W λe w'=>e= .returned (.int .i64 (zau E1.S y.id))/\Bw W w'):=kA (λW y q hy=>Me.slot W g F1 E1 y.id (Me.kb.keep Mg.du.eb q) Eb (zxE Mg.ek y hy));have Cg:Hid (f=0->∀y,y∈E.R.map Rc.id->y∈E1.R.map Rc.id->zau E1.S y=zau E.S y):=kA (λhf y h1 h2=>EO.stay KC hf h1 h2);clear ku EQ eJ EO;go_wp2
       go_loopw [15,16,17] (λEm _ _ wq=>∃k:Nat,k<=nn/\Em= .int .i64 k/\Blk wq gu 93 (Uc (UkB E1.S E1.R k))/\Bw w8 wq) (λEm _ _ _=>nn - (intOf Em).toNat)
       case atStart=>exact⟨0,om,rfl,mY.out,Ke⟩
       case round=>
        clear mY Ke;obtain⟨k,hk,rfl,ku,hb⟩:=hrel;have mY:=kA ku;have HB:=kA hb;clear ku hb
        by_cases gq:k<nn
        ·have k0:(0:Int)<=(k:Int):=om;have k1:(k:Int)<(nn:Int):=om;obtain⟨nb,noff,r,rfl,MS,Mi,Ci⟩:=gh.at_ gq;have cid8:w8.cell? ⟨nb,noff+k*12,none⟩=some (.int .i64 r.id):=Ci 0 _ rfl;have cid:=zam cid8 HB;have NV:=Nat.lt_of_lt_of_le MS HB.size;have VG:r.id∈E1.R.map Rc.id:=mem_map.2 ⟨r,mem_of_getElem? Mi,rfl⟩;have mX:=kA (Mf wr r HB (mem_of_getElem? Mi));obtain⟨m,hm⟩:∃m:Nat,zau E1.S r.id=(m:Int):=⟨(zau E1.S r.id).toNat,by have:=CK.out _ VG;omega⟩;have Q0:m<12:=by have:=Ec.out _ VG;omega
         have Ma:Hid (UkB E1.S E1.R k m=false):=kA (zxG Eb dM CK Mi hm);have Cq:Hid ((λi=>if i=m then true else UkB E1.S E1.R k i)=UkB E1.S E1.R (k+1)):=kA (zxF Mi hm)
         have Hu:Hid (f=0->∀y,y∈E.R.map Rc.id->y=r.id->zau E.S y=(m:Int)):=kA (λhf y h1 h2=>by rw[<-Cg.out hf y h1 (h2 ▸ VG),h2,hm]);rw[hm]at mX;obtain⟨rid,ck⟩:∃rid,rid=r.id:=⟨_,rfl⟩;rw[<-ck]at cid cid8 mX Hu;have Ed:Hid (∀W,Bw w8 W->W.cell? ⟨nb,noff+k*12,none⟩=some (.int .i64 rid)/\nb<W.heap.size):=kA (λW q=>⟨zam cid8 q,Nat.lt_of_lt_of_le MS q.size⟩);clear cid8 MS Ci Mi ck VG hm;go_wp2_with fail;refine mX.out.mono ?_;rintro e Ss ⟨rfl,JI⟩;have Mp:=kA (mY.out.keep JI);have He:=kA (zad HB.out JI);have cu:Ss.cell? ⟨gu,m,none⟩=some (.bool false):=by
          have h1:=Mp.cell m;rw[zAt _ Q0,Ma.out]at h1;exact h1
         have fu:Ss.frozen? ⟨gu,m,none⟩=false:=Mp.frozen m;have Ee:=Mp.lt;have m0:¬(m:Int)<0:=om;have m1:¬(12:Int)<=(m:Int):=om;have m2:(0:Int)<=(m:Int):=om;have m3:(m:Int)<12:=om
         have eu:Hid (Blk (Ss.setCell ⟨gu,m,none⟩ (.bool true)) gu 93 (Uc (UkB E1.S E1.R (k+1)))):=kA (by
          have h1:=Mp.set_ m (.bool true);rw[zzc,Cq.out]at h1
          exact h1)
         have Ky:Hid (Bw w8 (Ss.setCell ⟨gu,m,none⟩ (.bool true))):=kA (He.setCell (by rw[gj.out];exact Nat.le_refl _) _);clear JI cid NV mX mY HB Mp;go_upto_region 29 with fail;refine fin (λW=>Blk W gu 93 (Uc (UkB E1.S E1.R (k+1)))/\Bw w8 W) ⟨eu,Ky⟩ ?_;clear eu Ky cu fu Ee;rintro Yv ⟨ku,hb⟩;have mY:=kA ku;have HB:=kA hb;clear ku hb He Ma Cq;go_wp2
         go_loopw [17] (λv17 wq=>∃t:Nat,t<=q/\v17= .int .i64 t/\Blk wq gu 93 (Uc (UkB E1.S E1.R (k+1)))/\Bw w8 wq) (λv17 _=>q - (intOf v17).toNat)
         case atStart=>exact⟨0,om,rfl,mY.out,HB⟩
         case round=>
          clear mY HB;obtain⟨t,ht,rfl,ku,hb⟩:=hrel;have mY:=kA ku;have HB:=kA hb;clear ku hb
          by_cases qi:t<q
          ·have t0:(0:Int)<=(t:Int):=om;have t1:(t:Int)<(q:Int):=om;obtain⟨wb,woff,r0,rfl,Jb,X4,nD⟩:=(Ea.keep HB).at_ qi;have c0:wr.cell? ⟨wb,woff+t*12,none⟩=some (.int .i64 r0.id):=nD 0 _ rfl;have zR:r0.id∈E.R.map Rc.id:=mem_map.2 ⟨r0,mem_of_getElem? X4,rfl⟩;obtain⟨c1,NV⟩:=Ed.out wr HB;have ew:∃sb soff,sa=some ⟨sb,soff,none⟩/\wr.cell? ⟨sb,soff+t,none⟩=some (.int .i64 (zau E.S r0.id)):=by
            obtain⟨gY,scap',e,_,_,sr⟩:=(QR.keep HB).row zsk;injection e with e1 e2 e3;obtain⟨sb,soff,s0,es,_,NC,dD⟩:=sr.at_ (i:=t) (by rw[<-e2];exact qi);rw[getElem?_map,X4]at NC;have ND:s0=zau E.S r0.id:=by rw[Jr.out]at NC;simpa using NC.symm
            have c:=dD 0 _ rfl;rw[Nat.mul_one,Nat.add_zero,ND]at c;exact⟨sb,soff,e1.trans es,c⟩
           obtain⟨sb,soff,rfl,c2⟩:=ew;have XV:=World.block_lt_of_cell? _ _ c2;have HQ:Hid (f=0->r0.id=rid->zau E.S r0.id=(m:Int)):=kA (λhf e=>Hu.out hf _ zR e);have VR:Hid (∀nq,Blk (wr.drewN nq) gu 93 (Uc (UkB E1.S E1.R (k+1)))/\Bw w8 (wr.drewN nq)):=kA (λnq=>⟨mY.keep (zcD _ nq),zad HB (zcD _ nq)⟩);obtain⟨i0,kB⟩:∃i0,i0=r0.id:=⟨_,rfl⟩;obtain⟨s0,NC⟩:∃s0,s0=zau E.S r0.id:=⟨_,rfl⟩;rw[<-kB]at c0 HQ;rw[kB,<-NC]at HQ;rw[<-kB]at HQ;rw[<-NC]at c2;clear nD X4 zR kB NC mY HB
           by_cases hid:i0=rid
           ·have e1:(i0==rid)=true:=by simpa using hid
            by_cases hf:f=0
            ·have e2:(s0 != (m:Int))=false:=by simpa using HQ.out hf hid
             subst hf;clear HQ hid;go_wp2;go_quiet (fail);refine fin (λV=>Blk V gu 93 (Uc (UkB E1.S E1.R (k+1)))/\Bw w8 V) (VR nq) ?_;clear VR c0 c1 c2 NV Jb XV;rintro V ⟨ku,hb⟩;have mY:=kA ku;have HB:=kA hb;clear ku hb;go_wp2;go_roundw
             case rel=>exact⟨t+1,om,by go_num,mY.out,HB⟩
             case measure=>simp[intOf] <;> omega
            ·have e2:(f==0)=false:=by simpa using hf
             clear HQ hid hf;go_wp2;go_quiet (fail);refine fin (λV=>Blk V gu 93 (Uc (UkB E1.S E1.R (k+1)))/\Bw w8 V) (VR nq) ?_;clear VR c0 c1 c2 NV Jb XV;rintro V ⟨ku,hb⟩;have mY:=kA ku;have HB:=kA hb;clear ku hb;go_wp2;go_roundw
             case rel=>exact⟨t+1,om,by go_num,mY.out,HB⟩
             case measure=>simp[intOf] <;> omega
           ·have e1:(i0==rid)=false:=by simpa using hid
            clear HQ hid;go_wp2;go_quiet (fail);refine fin (λV=>Blk V gu 93 (Uc (UkB E1.S E1.R (k+1)))/\Bw w8 V) (VR nq) ?_;clear VR c0 c1 c2 NV Jb XV;rintro V ⟨ku,hb⟩;have mY:=kA ku;have HB:=kA hb;clear ku hb;go_wp2;go_roundw
            case rel=>exact⟨t+1,om,by go_num,mY.out,HB⟩
            case measure=>simp[intOf] <;> omega
          ·obtain rfl:t=q:=om;have t2:¬(t:Int)<(t:Int):=om;go_wp2;go_roundw
           case rel=>exact⟨k+1,om,by go_num,mY.out,HB⟩
           case measure=>simp[intOf] <;> omega
        ·obtain rfl:k=nn:=om;have k2:¬(k:Int)<(k:Int):=om;have dK:=kA ((Mg.keep Me.kb mT.kb HB).mono (m':=4*(j+1)) (k':=j+1) om om);clear mY HB Mg;go_wp2;go_roundw
         case rel=>exact⟨j+1,F1,EU,E1,_,om,by go_num,dK⟩
         case measure=>simp[intOf] <;> omega
   ·obtain rfl:j=len:=om;have j2:¬(j:Int)<(j:Int):=om;go_wp2_with fail;refine (Mo _).mono ?_;rintro e w3 ⟨rfl,b3⟩;have HB:=kA (zad HS.du.be b3);clear b3;go_wp2;go_ret;exact⟨rfl,HB⟩
end
section
variable {XB:World->Nat->(Nat->Prop)->Sc->Prop} {FB:World->Nat->(Nat->Prop)->FD->Prop}
theorem zuK(w w':World):LRes w w' [] (.slice none 0 0):=⟨none,0,rfl,⟨rfl,by show 0<=_;omega,.inl rfl⟩,.inl rfl⟩
theorem LRes.fr{w1 w2:World}{v:Value}(h:LRes w w1 zs v)(k:Fr w1 w2 F)(hF:∀b,F b->b<w.heap.size):LRes w w2 zs v:=by
 obtain⟨a,cap,rfl,row,Kt⟩:=h;exact⟨a,cap,rfl,zvE k row (Kt.imp id (λq ad e c=>by have:=q ad e;have:=hF _ c;omega)),Kt⟩
theorem zo7(hX:XC XB)(hC:FWE FB)(w:World)(g:Nat)(F:Nat->Prop)(E:XS)(gs:Nat)(Fs:Nat->Prop)(X:Sc)(h0:LEB FB w g F E)(sb:XB w gs Fs X)(hap:∀b,F b->¬Fs b)(hS:SX3 X)(hE:EOk X E)(hB:BSc X 250)(Kl:EBd E 100)(hsl:∀p∈E.S,p.2<256)(VG:X.S.room<=19):
  Calls prog 13 #[.pointer (some ⟨g,0,none⟩),.pointer (some ⟨gs,0,none⟩)] w λe w'=>∃v zs er E',e= .returned (.tuple #[v,.int .i64 er])/\LRes w w' zs v/\Synced X E zs er E'/\SyR (LEB FB) XB w w' g gs F Fs E' (zfY X):=by
 have hK:=zvB hC;have tK:=kA (zo5 hX hC h0 sb hap hS hE hB Kl hsl VG);have jN:=hK.inb _ _ _ _ h0;have qp:=hX.kb.inb _ _ _ _ sb
 have Xs:Hid (∀w1 F1 E1,LEB FB w1 g F1 E1->Fr w w1 F->(∀b,F1 b->F b∨w.heap.size<=b)->Calls prog 33 #[.pointer (some ⟨gs,0,none⟩)] w1 λe w2=>(∃v,e= .returned v)/\∃Cr,LEB FB w2 g F1 E1/\XB w2 gs Cr (zfY X)/\Fr w w2 (λb=>F b∨Fs b)/\(∀b,F1 b->F b∨w.heap.size<=b)/\(∀b,Cr b->Fs b∨w.heap.size<=b)/\(∀b,F1 b->¬Cr b)/\Fr w1 w2 Fs):=kA (λw1 F1 E1 h1 k1 k2=>by
  have Nj:XB w1 gs Fs X:=hX.kb.keep_ _ _ _ _ _ sb (λb c=>k1.2.2.2.2 b (qp b c) (λd=>hap b d c));have Cc:=hK.inb _ _ _ _ h1;have yO:∀b,F1 b->¬Fs b:=λb c d=>(k2 b c).elim (λz=>hap b z d) (λz=>by have:=qp b d;omega);refine (hX.next w1 gs Fs X hS.wx (hB.mono om) Nj).mono ?_;rintro e w2 ⟨rfl,Cr,s1,s2,s3⟩;refine⟨⟨_,rfl⟩,Cr,hK.keep_ _ _ _ _ _ h1 (λb c=>s2.2.2.2.2 b (Cc b c) (yO b c)),s1,?_,k2,λb c=>(s3 b c).imp id (λz=>Nat.le_trans k1.2.2.2.1 z),λb c d=>(s3 b d).elim (yO b c) (λz=>by have:=Cc b c;omega),s2⟩
  exact Fr.two (k1.of (λb c=>Or.inl c)) s2 (λx c=>Or.inl (.inr c)))
 have Jx:Hid (∀w2 F1 Cr E1,LEB FB w2 g F1 E1->XB w2 gs Cr (zfY X)->Fr w w2 (λb=>F b∨Fs b)->(∀b,F1 b->F b∨w.heap.size<=b)->(∀b,Cr b->Fs b∨w.heap.size<=b)->(∀b,F1 b->¬Cr b)->Calls prog 11 #[.pointer (some ⟨g,0,none⟩)] w2 λe w3=>e= .returned (.tuple #[])/\SyR (LEB FB) XB w w3 g gs F Fs (XSn E1.n) (zfY X)):=kA (λw2 F1 Cr E1 h1 h2 h3 h4 h5 h6=>by
  have Cc:=hK.inb _ _ _ _ h1;have X6:=hX.kb.inb _ _ _ _ h2;refine (zfR hC h1).mono ?_;rintro e w3 ⟨rfl,F2,s1,s2,s3⟩;refine⟨rfl,F2,Cr,s1,hX.kb.keep_ _ _ _ _ _ h2 (λb c=>s2.2.2.2.2 b (X6 b c) (λd=>h6 b d c)),?_,λb c=>(s3 b c).elim (h4 b) (λz=>Or.inr (Nat.le_trans h3.2.2.2.1 z)),h5,λb c d=>(s3 b c).elim (λz=>h6 b z d) (λz=>by have:=X6 b d;omega)⟩
  exact Fr.two h3 s2 (λx c=>(h4 x c).imp (λz=>Or.inl z) id))
 have cC:Hid (∀w1 w2 zs v,LRes w w1 zs v->Fr w1 w2 Fs->LRes w w2 zs v):=kA (λw1 w2 zs v h k=>h.fr k qp);clear hK hX hC h0 sb hap hS hE hB Kl hsl jN qp;go_enter func13,ntmps13;go_wp2_with fail;refine tK.mono ?_;rintro e w1 ⟨v,zs,er,E1,rfl,⟨F1,h1,k1,k2⟩,hc⟩;have HN:=kA (Xs w1 F1 E1 h1 k1 k2);have Jy:=kA hc;clear h1 k1 k2 hc tK Xs;go_wp2_with fail;refine HN.mono ?_;rintro e w2 ⟨⟨nv,rfl⟩,Cr,h1,h2,h3,h4,h5,h6,h7⟩;have HG:=kA (Jx w2 F1 Cr E1 h1 h2 h3 h4 h5 h6);have HR:Hid (SyR (LEB FB) XB w w2 g gs F Fs E1 (zfY X)):=kA ⟨F1,Cr,h1,h2,h3,h4,h5,h6⟩;have dY:=kA (λzs v h=>cC.out w1 w2 zs v h h7);clear h1 h2 h3 h4 h5 h6 h7 Jx cC HN
 by_cases he:er=0
 ·have DY:Hid (LRes w w2 zs v/\Synced X E zs 0 E1):=kA (by
   rcases Jy.out with ⟨_,q1,q2⟩ | ⟨q,_⟩
   ·exact⟨dY zs v q1,q2⟩
   ·exact absurd he q)
  subst he;clear Jy HG dY;go_wp2;go_ret2;exact⟨v,zs,0,E1,rfl,DY.1,DY.2,HR⟩
 ·have DY:Hid (Synced X E [] er (XSn E1.n)):=kA (by
   rcases Jy.out with ⟨q,_⟩ | ⟨_,q⟩
   ·exact absurd q he
   ·exact q)
  clear Jy dY HR;go_wp2_with fail;refine HG.mono ?_;rintro e w3 ⟨rfl,hs⟩;have HS:=kA hs;clear hs HG;go_wp2;go_ret2;exact⟨_,[],er,_,rfl,zuK _ _,DY.out,HS⟩
theorem ec_holds(hX:XC XB)(hC:FWE FB):EC (LEB FB) XB where
 kb:=zvB hC
 new:=zr5 hC
 forget _ _ _ _ h:=zfR hC h
 records _ _ _ _ h hl:=zjh h hl
 slot _ _ _ _ x h hs hx:=zoR h hs x hx
 steps _ _ _ _ h:=zma h
 sync:=zo7 hX hC
end
open Go.Shelf
def zfc:Go.Shelf.Ren:=⟨fun | 7=>130 | 10=>199 | n=>n,fun | 23=>199 | 26=>81 | 3=>220 | 28=>208 | 0=>0 | 27=>207 | 33=>144 | 4=>4 | n=>n,fun | n=>n⟩
theorem zkM:Go.Proofs.SlLaysZI.n7 prog zfc:={
 mixed:=oM
 f7:=⟨Tryz.f130.name,by decide,func130.trans (congrArg some oM)⟩
 f10:=⟨Tryz.f199.name,by decide,func199.trans (congrArg some oM)⟩
 t0:=underlying0
 a0:=isAgg0
 z0:=sizeOf0
 v0:=zeroValue0
 t4:=underlying4
 a4:=isAgg4
 z4:=sizeOf4
 v4:=zeroValue4
 t23:=underlying199
 a23:=isAgg199
 z23:=sizeOf199
 v23:=zeroValue199
 t26:=underlying81
 a26:=isAgg81
 z26:=sizeOf81
 v26:=zeroValue81
 t27:=underlying207
 a27:=isAgg207
 z27:=sizeOf207
 v27:=zeroValue207
 t28:=underlying208
 a28:=isAgg208
 z28:=sizeOf208
 v28:=zeroValue208
 t33:=underlying144
 a33:=isAgg144
 z33:=sizeOf144
 v33:=zeroValue144 }
def zfd:Go.Shelf.Ren:=⟨fun | 7=>201 | 10=>255 | n=>n,fun | 23=>197 | 26=>81 | 3=>215 | 28=>208 | 0=>0 | 27=>207 | 33=>144 | 4=>4 | n=>n,fun | n=>n⟩
theorem zkN:Go.Proofs.SlLaysZI.n7 prog zfd:={
 mixed:=oM
 f7:=⟨Tryz.f201.name,by decide,func201.trans (congrArg some oM)⟩
 f10:=⟨Tryz.f255.name,by decide,func255.trans (congrArg some oM)⟩
 t0:=underlying0
 a0:=isAgg0
 z0:=sizeOf0
 v0:=zeroValue0
 t4:=underlying4
 a4:=isAgg4
 z4:=sizeOf4
 v4:=zeroValue4
 t23:=underlying197
 a23:=isAgg197
 z23:=sizeOf197
 v23:=zeroValue197
 t26:=underlying81
 a26:=isAgg81
 z26:=sizeOf81
 v26:=zeroValue81
 t27:=underlying207
 a27:=isAgg207
 z27:=sizeOf207
 v27:=zeroValue207
 t28:=underlying208
 a28:=isAgg208
 z28:=sizeOf208
 v28:=zeroValue208
 t33:=underlying144
 a33:=isAgg144
 z33:=sizeOf144
 v33:=zeroValue144 }
def zfe:Go.Shelf.Ren:=⟨fun | 7=>124 | 10=>190 | n=>n,fun | 23=>204 | 26=>81 | 3=>205 | 28=>208 | 0=>0 | 27=>207 | 33=>144 | 4=>4 | n=>n,fun | n=>n⟩
theorem zkO:Go.Proofs.SlLaysZI.n7 prog zfe:={
 mixed:=oM
 f7:=⟨Tryz.f124.name,by decide,func124.trans (congrArg some oM)⟩
 f10:=⟨Tryz.f190.name,by decide,func190.trans (congrArg some oM)⟩
 t0:=underlying0
 a0:=isAgg0
 z0:=sizeOf0
 v0:=zeroValue0
 t4:=underlying4
 a4:=isAgg4
 z4:=sizeOf4
 v4:=zeroValue4
 t23:=underlying204
 a23:=isAgg204
 z23:=sizeOf204
 v23:=zeroValue204
 t26:=underlying81
 a26:=isAgg81
 z26:=sizeOf81
 v26:=zeroValue81
 t27:=underlying207
 a27:=isAgg207
 z27:=sizeOf207
 v27:=zeroValue207
 t28:=underlying208
 a28:=isAgg208
 z28:=sizeOf208
 v28:=zeroValue208
 t33:=underlying144
 a33:=isAgg144
 z33:=sizeOf144
 v33:=zeroValue144 }
def zdZ:Go.Shelf.Ren:=⟨fun | 6=>123 | 8=>189 | 9=>74 | 11=>250 | 13=>135 | 12=>134 | 23=>211 | 24=>212 | 14=>202 | 15=>203 | 16=>204 | 17=>205 | 18=>206 | 19=>207 | 20=>208 | 21=>209 | 22=>210 | 25=>256 | 26=>257 | 27=>258 | 28=>259 | 29=>260 | 30=>261 | 31=>288 | n=>n,fun | 26=>81 | 28=>208 | 24=>35 | 0=>0 | 3=>3 | 37=>226 | 48=>295 | 50=>297 | 4=>4 | 40=>289 | 39=>288 | 45=>127 | 5=>5 | 9=>9 | 51=>338 | 55=>342 | 57=>374 | 58=>253 | 33=>144 | n=>n,fun | n=>n⟩
theorem zeu:Go.Proofs.SlLaysZI.n6 prog zdZ:={
 mixed:=oM
 f6:=⟨Tryz.f123.name,by decide,func123.trans (congrArg some oM)⟩
 f8:=⟨Tryz.f189.name,by decide,func189.trans (congrArg some oM)⟩
 f11:=⟨Tryz.f250.name,by decide,func250.trans (congrArg some oM)⟩
 t0:=underlying0
 a0:=isAgg0
 z0:=sizeOf0
 v0:=zeroValue0
 t24:=underlying35
 a24:=isAgg35
 z24:=sizeOf35
 v24:=zeroValue35
 t26:=underlying81
 a26:=isAgg81
 z26:=sizeOf81
 v26:=zeroValue81
 t28:=underlying208
 a28:=isAgg208
 z28:=sizeOf208
 v28:=zeroValue208
 i26:=by kernel_rfl }
theorem lMs(M:Nat->Int):∀u∈lM M,zoz u:=λu hu=>by
 unfold lM at hu;simp only[mem_cons,not_mem_nil,or_false]at hu;rcases hu with h | h | h | h | h | h | h | h | h | h | h | h <;> exact .inl ⟨_,_,h⟩
abbrev BD:=(Nat->Int) × Bool
abbrev RD:=Stt × Nat
def zB:BD:=(λ_=>0,false)
def zRf:RD:=(zSt,0)
def cBd(p:BD):List Value:=[.int .i64 (p.1 0),.int .i64 (p.1 1),.int .i64 (p.1 2),.int .i64 (p.1 3),.int .i64 (p.1 4),.int .i64 (p.1 5),.int .i64 (p.1 6),.int .i64 (p.1 7),.int .i64 (p.1 8),.int .i64 (p.1 9),.int .i64 (p.1 10),.int .i64 (p.1 11),.bool p.2]
def cSd(p:RD):List Value:=[.int .i64 (p.1.wo 0),.int .i64 (p.1.wo 1),.int .i64 (p.1.wo 2),.int .i64 (p.1.wo 3),.int .i64 (p.1.wo 4),.int .i64 (p.1.wo 5),.int .i64 (p.1.wo 6),.int .i64 (p.1.wo 7),.int .i64 (p.1.wo 8),.int .i64 (p.1.wo 9),.int .i64 (p.1.wo 10),.int .i64 (p.1.wo 11),.bool p.1.sh,.int .i64 p.2]
theorem zvF(p:BD):cBd p=lM p.1++[.bool p.2]:=rfl
theorem zvG(p:RD):cSd p=lM p.1.wo++[.bool p.1.sh,.int .i64 p.2]:=rfl
theorem zzd(n:Nd):cNd n=[.int .i64 n.id,.int .i64 n.par]++lM n.pl++[.bool n.hid]:=rfl
theorem zvb(w:World):(zeroValue 215).run prog w= .ok (.agg (cBd zB).toArray) w:=oM
theorem zvr(w:World):(zeroValue 299).run prog w= .ok (.agg (cSd zRf).toArray) w:=oM
theorem zvn(w:World):(zeroValue 205).run prog w= .ok (.agg (cNd zNd).toArray) w:=oM
theorem zvx(w:World):(zeroValue 220).run prog w= .ok (.agg #[]) w:=oM
def bK:MK BD:=mkA 197 215 (λo=> .agg (cBd (o.getD zB)).toArray) underlying197 zvb (λo=>⟨_,rfl,λu hu=>by
 rw[zvF]at hu;rcases mem_append.1 hu with h | h
 ·exact lMs _ u h
 ·exact .inr ⟨_,mem_singleton.1 h⟩⟩)
def sK:MK RD:=mkA 198 299 (λo=> .agg (cSd (o.getD zRf)).toArray) underlying198 zvr (λo=>⟨_,rfl,λu hu=>by
 rw[zvG]at hu;rcases mem_append.1 hu with h | h
 ·exact lMs _ u h
 ·rcases mem_cons.1 h with h | h
  ·exact .inr ⟨_,h⟩
  ·exact .inl ⟨_,_,mem_singleton.1 h⟩⟩)
def nK:MK Nd:=mkA 204 205 (λo=> .agg (cNd (o.getD zNd)).toArray) underlying204 zvn (λo=>⟨_,rfl,λu hu=>by
 rw[zzd]at hu;rcases mem_append.1 hu with h | h
 ·rcases mem_append.1 h with h | h
  ·rcases mem_cons.1 h with h | h
   ·exact .inl ⟨_,_,h⟩
   ·exact .inl ⟨_,_,mem_singleton.1 h⟩
  ·exact lMs _ u h
 ·exact .inr ⟨_,mem_singleton.1 h⟩⟩)
def xK:MK Unit:=mkA 199 220 (λ_=> .agg #[]) underlying199 zvx (λ_=>⟨[],rfl,λu hu=>by cases hu⟩)
theorem MF.clear{α:Type}{k:MK α}{m:Int->Option α}(h:MF k w mb m):
  ∃w',(∀ty,(Builtin.clear_ #[k.t] ty #[.map (some mb)]).run prog w= .ok (.tuple #[]) w')/\MF k w' mb (λ_=>none)/\w.grownBy w' (some mb):=by
 obtain⟨D,⟨es,clock,hb,F,hs,hD⟩,hk⟩:=h;refine⟨Go.ChangeMaps.setBlock w mb (.map #[] clock),λty=> ?_,⟨.map [],⟨#[],clock,Go.ChangeMaps.heap_setBlock_same hb _,⟨by simp,Go.MapKept.stamped_empty _,by simp⟩,by simp,rfl⟩,λ_ _=>⟨rfl,rfl⟩,λx h=>by cases h⟩,?_⟩
 ·simp[Builtin.clear_,run_underlying k.ht,Go.MapKept.run_getObj_map hb,Go.MapKept.run_setObj_map _ hb,Result.andThen,Go.ChangeMaps.setBlock]
 ·exact World.mapTurned.grown ⟨es,clock,#[],clock,hb,rfl⟩
theorem zsl(m:Nat):AnyZI.SortsIn prog zdZ Fence.wide m:=
 ⟨λblk off cap ss W hH hblk Kr=>callsIn_wide.2 (AnyM.slices_Sort_int zeK blk off cap ss W hH hblk Kr),
  λp cap W=>callsIn_wide.2 (AnyM.slices_Sort_int_none zeK p cap W)⟩
theorem zze(mb:Option Nat)(w:World):Calls prog 130 #[.map mb] w λe w'=>e= .returned (.func (.func 199) #[] #[.pointer (some ⟨w.heap.size,0,none⟩)])/\w'=w.alloc (.cells #[.map mb] 199):=
 (callsIn_wide (n:=5)).1 (AnyZI.keys_in zkM Fence.wide 5 trivial rfl mb w)
theorem zuL{α:Type}{k:MK α}{m:Int->Option α}(h:MF k w mb m)(K:List Int)(hK:K.Pairwise (·<·))(hm:∀z,z∈K↔Rg z/\(m z).isSome=true):Calls prog 123 #[.func (.func 199) #[] #[.pointer (some ⟨w.heap.size,0,none⟩)]] (w.alloc (.cells #[.map (some mb)] 199)) λe w'=>∃v,e= .returned v/\OwnD w' w.heap.size v K.length K/\Bw w w':=by
 obtain⟨D,Hc,hk,hr⟩:=h;have Ht:=Hc.lt;have Kr:=Hc.size_le
 have Q3:K.Perm (intKeys D):=CollectedI.perm (left:=λ_=>false) ⟨zgZ hK,λx=>by
  rw[hm]
  exact⟨λq=>⟨by rw[(hk x q.1).2];exact q.2,rfl⟩,λq=>⟨hr x q.1,by rw[<-(hk x (hr x q.1)).2];exact q.1⟩⟩⟩ Hc zdR underlying81 (λ_=>rfl)
 have Xa:SeqGives Fence.wide 2 prog 199 #[.pointer (some ⟨w.heap.size,0,none⟩)] encZ (λss=>ss.Perm (intKeys D)) (Maps.size D) (w.alloc (.cells #[.map (some mb)] 199)):=
  AnyZI.keys_gives (ρ:=zfc) { zkM with } Fence.wide _ trivial rfl om w.heap.size mb 100000 D _ (by simp) (by simp) (by
   obtain⟨es,clock,hb,Ft,hs,hD⟩:=Hc
   exact⟨es,clock,(Below.heap_alloc _ _ mb Ht).trans hb,Ft,hs,hD⟩)
 have cS:=AnyZI.sorted_in zeu Fence.wide 5 trivial trivial trivial trivial rfl om (zsl _) (Go.Proofs.enters_of func74 oM rfl) 199 #[.pointer (some ⟨w.heap.size,0,none⟩)] trivial (Go.Proofs.enters_of func199 oM rfl) _ (Maps.size D) (by unfold maxLen;omega) om _ Xa;refine ((callsIn_wide (n:=5)).1 cS).mono ?_;rintro e w' ⟨v,ss,rfl,hS,Hd,_,hb⟩;have hp:ss.Perm K:=hS.trans Q3.symm;have e1:=zqB hp hK;have e2:=hp.length_eq;rw[e1,e2]at Hd;exact⟨v,rfl,ownsRow_base_a Hd (by simp),((Below.refl _ w).alloc (Nat.le_refl _) _).trans (hb.mono (by simp))⟩
theorem zzf(mb:Option Nat)(w:World):Calls prog 201 #[.map mb] w λe w'=>e= .returned (.func (.func 255) #[] #[.pointer (some ⟨w.heap.size,0,none⟩)])/\w'=w.alloc (.cells #[.map mb] 197):=
 (callsIn_wide (n:=5)).1 (AnyZI.keys_in zkN Fence.wide 5 trivial rfl mb w)
theorem zuM{α:Type}{k:MK α}{m:Int->Option α}(h:MF k w mb m)(K:List Int)(hK:K.Pairwise (·<·))(hm:∀z,z∈K↔Rg z/\(m z).isSome=true):Calls prog 123 #[.func (.func 255) #[] #[.pointer (some ⟨w.heap.size,0,none⟩)]] (w.alloc (.cells #[.map (some mb)] 197)) λe w'=>∃v,e= .returned v/\OwnD w' w.heap.size v K.length K/\Bw w w':=by
 obtain⟨D,Hc,hk,hr⟩:=h;have Ht:=Hc.lt;have Kr:=Hc.size_le
 have Q3:K.Perm (intKeys D):=CollectedI.perm (left:=λ_=>false) ⟨zgZ hK,λx=>by
  rw[hm]
  exact⟨λq=>⟨by rw[(hk x q.1).2];exact q.2,rfl⟩,λq=>⟨hr x q.1,by rw[<-(hk x (hr x q.1)).2];exact q.1⟩⟩⟩ Hc zdR underlying81 (λ_=>rfl)
 have Xa:SeqGives Fence.wide 2 prog 255 #[.pointer (some ⟨w.heap.size,0,none⟩)] encZ (λss=>ss.Perm (intKeys D)) (Maps.size D) (w.alloc (.cells #[.map (some mb)] 197)):=
  AnyZI.keys_gives (ρ:=zfd) { zkN with } Fence.wide _ trivial rfl om w.heap.size mb 100000 D _ (by simp) (by simp) (by
   obtain⟨es,clock,hb,Ft,hs,hD⟩:=Hc
   exact⟨es,clock,(Below.heap_alloc _ _ mb Ht).trans hb,Ft,hs,hD⟩)
 have cS:=AnyZI.sorted_in zeu Fence.wide 5 trivial trivial trivial trivial rfl om (zsl _) (Go.Proofs.enters_of func74 oM rfl) 255 #[.pointer (some ⟨w.heap.size,0,none⟩)] trivial (Go.Proofs.enters_of func255 oM rfl) _ (Maps.size D) (by unfold maxLen;omega) om _ Xa;refine ((callsIn_wide (n:=5)).1 cS).mono ?_;rintro e w' ⟨v,ss,rfl,hS,Hd,_,hb⟩;have hp:ss.Perm K:=hS.trans Q3.symm;have e1:=zqB hp hK;have e2:=hp.length_eq;rw[e1,e2]at Hd;exact⟨v,rfl,ownsRow_base_a Hd (by simp),((Below.refl _ w).alloc (Nat.le_refl _) _).trans (hb.mono (by simp))⟩
theorem zzg(mb:Option Nat)(w:World):Calls prog 124 #[.map mb] w λe w'=>e= .returned (.func (.func 190) #[] #[.pointer (some ⟨w.heap.size,0,none⟩)])/\w'=w.alloc (.cells #[.map mb] 204):=
 (callsIn_wide (n:=5)).1 (AnyZI.keys_in zkO Fence.wide 5 trivial rfl mb w)
theorem zuN{α:Type}{k:MK α}{m:Int->Option α}(h:MF k w mb m)(K:List Int)(hK:K.Pairwise (·<·))(hm:∀z,z∈K↔Rg z/\(m z).isSome=true):Calls prog 123 #[.func (.func 190) #[] #[.pointer (some ⟨w.heap.size,0,none⟩)]] (w.alloc (.cells #[.map (some mb)] 204)) λe w'=>∃v,e= .returned v/\OwnD w' w.heap.size v K.length K/\Bw w w':=by
 obtain⟨D,Hc,hk,hr⟩:=h;have Ht:=Hc.lt;have Kr:=Hc.size_le
 have Q3:K.Perm (intKeys D):=CollectedI.perm (left:=λ_=>false) ⟨zgZ hK,λx=>by
  rw[hm]
  exact⟨λq=>⟨by rw[(hk x q.1).2];exact q.2,rfl⟩,λq=>⟨hr x q.1,by rw[<-(hk x (hr x q.1)).2];exact q.1⟩⟩⟩ Hc zdR underlying81 (λ_=>rfl)
 have Xa:SeqGives Fence.wide 2 prog 190 #[.pointer (some ⟨w.heap.size,0,none⟩)] encZ (λss=>ss.Perm (intKeys D)) (Maps.size D) (w.alloc (.cells #[.map (some mb)] 204)):=
  AnyZI.keys_gives (ρ:=zfe) { zkO with } Fence.wide _ trivial rfl om w.heap.size mb 100000 D _ (by simp) (by simp) (by
   obtain⟨es,clock,hb,Ft,hs,hD⟩:=Hc
   exact⟨es,clock,(Below.heap_alloc _ _ mb Ht).trans hb,Ft,hs,hD⟩)
 have cS:=AnyZI.sorted_in zeu Fence.wide 5 trivial trivial trivial trivial rfl om (zsl _) (Go.Proofs.enters_of func74 oM rfl) 190 #[.pointer (some ⟨w.heap.size,0,none⟩)] trivial (Go.Proofs.enters_of func190 oM rfl) _ (Maps.size D) (by unfold maxLen;omega) om _ Xa;refine ((callsIn_wide (n:=5)).1 cS).mono ?_;rintro e w' ⟨v,ss,rfl,hS,Hd,_,hb⟩;have hp:ss.Perm K:=hS.trans Q3.symm;have e1:=zqB hp hK;have e2:=hp.length_eq;rw[e1,e2]at Hd;exact⟨v,rfl,ownsRow_base_a Hd (by simp),((Below.refl _ w).alloc (Nat.le_refl _) _).trans (hb.mono (by simp))⟩
structure Wp where
 g:Nat
 gf:Nat
 gn:Nat
 gs:Nat
 gm:Nat
 Ff:Nat->Prop
 T:FT
 N:Int->Option BD
 S:Int->Option RD
 M:Int->Option Unit
 st:Nat
structure LW (w:World) (p:Wp):Prop where
 blk:Blk w p.g 201 #[.pointer (some ⟨p.gf,0,none⟩),.map (some p.gn),.map (some p.gs),.map (some p.gm),.int .i64 p.st]
 fo:LFB w p.gf p.Ff p.T
 nod:MF bK w p.gn p.N
 sts:MF sK w p.gs p.S
 mrk:MF xK w p.gm p.M
 d1:p.g≠p.gn
 d2:p.g≠p.gs
 d3:p.g≠p.gm
 d4:p.gn≠p.gs
 d5:p.gn≠p.gm
 d6:p.gs≠p.gm
 f1:¬p.Ff p.g
 f2:¬p.Ff p.gn
 f3:¬p.Ff p.gs
 f4:¬p.Ff p.gm
def zba(p:Wp)(b:Nat):Prop:=b=p.g∨b=p.gn∨b=p.gs∨b=p.gm∨p.Ff b
def ChL(w w':World)(p q:Wp):Prop:=LW w' q/\Fr w w' (zba p)/\∀b,zba q b->zba p b∨w.heap.size<=b
section
variable {w w' w1 w2:World} {p q r:Wp}
theorem LW.inb(h:LW w p):∀b,zba p b->b<w.heap.size:=by
 rintro b (rfl | rfl | rfl | rfl | e)
 ·exact h.blk.lt
 ·exact h.nod.lt
 ·exact h.sts.lt
 ·exact h.mrk.lt
 ·exact h.fo.inb b e
theorem LW.same(h:LW w p)(he:∀b,zba p b->w'.heap[b]? =w.heap[b]?):LW w' p:=
 ⟨h.blk.same (he _ (.inl rfl)),h.fo.keep_ (λb hb=>he b (.inr (.inr (.inr (.inr hb))))),h.nod.same (he _ (.inr (.inl rfl))),h.sts.same (he _ (.inr (.inr (.inl rfl)))),h.mrk.same (he _ (.inr (.inr (.inr (.inl rfl))))),h.d1,h.d2,h.d3,h.d4,h.d5,h.d6,h.f1,h.f2,h.f3,h.f4⟩
theorem LW.keep(h:LW w p)(hb:Bw w w'):LW w' p:=h.same (λb hf=>hb.block b (h.inb b hf))
theorem ChL.still(h:LW w p)(hb:Bw w w'):ChL w w' p p:=⟨h.keep hb,⟨hb.os,hb.tape,hb.output,hb.size,λb hl _=>hb.block b hl⟩,λ_ k=>Or.inl k⟩
theorem ChL.behind(h:ChL w w1 p q)(hb:Bw w1 w2):ChL w w2 p q:=⟨h.1.keep hb,Fr.behind h.2.1 hb,h.2.2⟩
theorem ChL.join(h:ChL w w1 p q)(k:ChL w1 w2 q r):ChL w w2 p r:=by
 obtain⟨h1,h2,h3⟩:=h;obtain⟨k1,k2,k3⟩:=k;refine⟨k1,Fr.two h2 k2 h3,λb hb=> ?_⟩;rcases k3 b hb with d | d
 ·exact h3 b d
 ·exact .inr (Nat.le_trans h2.2.2.2.1 d)
theorem LW.rest(h:LW w p){o:Nat}(hg:w.grownBy w' (some o)){b:Nat}(hb:zba p b)(Ho:b≠o):w'.heap[b]? =w.heap[b]? :=hg.block b (h.inb b hb) (λe=>Ho (by injection e))
theorem LW.setN(h:LW w p){N':Int->Option BD}(hm:MF bK w' p.gn N')(hg:w.grownBy w' (some p.gn)):ChL w w' p { p with N:=N' }:=by
 refine⟨⟨h.blk.same (h.rest hg (.inl rfl) h.d1),h.fo.keep_ (λb hb=>h.rest hg (.inr (.inr (.inr (.inr hb)))) (λe=>h.f2 (e ▸ hb))),hm,h.sts.same (h.rest hg (.inr (.inr (.inl rfl))) (λe=>h.d4 e.symm)),h.mrk.same (h.rest hg (.inr (.inr (.inr (.inl rfl)))) (λe=>h.d5 e.symm)),h.d1,h.d2,h.d3,h.d4,h.d5,h.d6,h.f1,h.f2,h.f3,h.f4⟩,⟨hg.os,hg.tape,hg.output,hg.size,λb hl hn=>hg.block b hl (λe=>hn (by injection e with e;exact .inr (.inl e)))⟩,λb hb=>Or.inl hb⟩
theorem LW.setS(h:LW w p){S':Int->Option RD}(hm:MF sK w' p.gs S')(hg:w.grownBy w' (some p.gs)):ChL w w' p { p with S:=S' }:=by
 refine⟨⟨h.blk.same (h.rest hg (.inl rfl) h.d2),h.fo.keep_ (λb hb=>h.rest hg (.inr (.inr (.inr (.inr hb)))) (λe=>h.f3 (e ▸ hb))),h.nod.same (h.rest hg (.inr (.inl rfl)) h.d4),hm,h.mrk.same (h.rest hg (.inr (.inr (.inr (.inl rfl)))) (λe=>h.d6 e.symm)),h.d1,h.d2,h.d3,h.d4,h.d5,h.d6,h.f1,h.f2,h.f3,h.f4⟩,⟨hg.os,hg.tape,hg.output,hg.size,λb hl hn=>hg.block b hl (λe=>hn (by injection e with e;exact .inr (.inr (.inl e))))⟩,λb hb=>Or.inl hb⟩
theorem LW.setM(h:LW w p){M':Int->Option Unit}(hm:MF xK w' p.gm M')(hg:w.grownBy w' (some p.gm)):ChL w w' p { p with M:=M' }:=by
 refine⟨⟨h.blk.same (h.rest hg (.inl rfl) h.d3),h.fo.keep_ (λb hb=>h.rest hg (.inr (.inr (.inr (.inr hb)))) (λe=>h.f4 (e ▸ hb))),h.nod.same (h.rest hg (.inr (.inl rfl)) h.d5),h.sts.same (h.rest hg (.inr (.inr (.inl rfl))) h.d6),hm,h.d1,h.d2,h.d3,h.d4,h.d5,h.d6,h.f1,h.f2,h.f3,h.f4⟩,⟨hg.os,hg.tape,hg.output,hg.size,λb hl hn=>hg.block b hl (λe=>hn (by injection e with e;exact .inr (.inr (.inr (.inl e)))))⟩,λb hb=>Or.inl hb⟩
theorem LW.setF(h:LW w p){T':FT}(hc:ChF LFB w w' p.gf p.Ff T'):∃KJ,ChL w w' p { p with Ff:=KJ,T:=T' }:=by
 obtain⟨F',k1,k2,k3⟩:=hc;have hin:=h.inb;have hs:∀b,b=p.g∨b=p.gn∨b=p.gs∨b=p.gm->w'.heap[b]? =w.heap[b]?/\¬F' b:=λb hb=>by
  have hn:¬p.Ff b:=by
   rcases hb with rfl | rfl | rfl | rfl
   ·exact h.f1
   ·exact h.f2
   ·exact h.f3
   ·exact h.f4
  have hl:b<w.heap.size:=hin b (by
   rcases hb with e | e | e | e
   ·exact .inl e
   ·exact .inr (.inl e)
   ·exact .inr (.inr (.inl e))
   ·exact .inr (.inr (.inr (.inl e))))
  refine⟨k2.2.2.2.2 b hl hn,λc=> ?_⟩;rcases k3 b c with d | d
  ·exact hn d
  ·omega
 refine⟨F',⟨h.blk.same (hs _ (.inl rfl)).1,k1,h.nod.same (hs _ (.inr (.inl rfl))).1,h.sts.same (hs _ (.inr (.inr (.inl rfl)))).1,h.mrk.same (hs _ (.inr (.inr (.inr rfl)))).1,h.d1,h.d2,h.d3,h.d4,h.d5,h.d6,(hs _ (.inl rfl)).2,(hs _ (.inr (.inl rfl))).2,(hs _ (.inr (.inr (.inl rfl)))).2,(hs _ (.inr (.inr (.inr rfl)))).2⟩,Fr.of k2 (λb hb=>Or.inr (.inr (.inr (.inr hb)))),?_⟩;rintro b (e | e | e | e | e)
 ·exact .inl (.inl e)
 ·exact .inl (.inr (.inl e))
 ·exact .inl (.inr (.inr (.inl e)))
 ·exact .inl (.inr (.inr (.inr (.inl e))))
 ·exact (k3 b e).imp_left (λc=>Or.inr (.inr (.inr (.inr c))))
theorem LW.setT(h:LW w p)(s:Nat){z:Int}(hz:z=(s:Int)):ChL w (w.setCell ⟨p.g,4,none⟩ (.int .i64 z)) p { p with st:=s }:=by
 subst hz;exact⟨⟨h.blk.set_ 4 _,h.fo.keep_ (λb hb=>zjY (λe=>h.f1 (e ▸ hb))),h.nod.same (zjY (λe=>h.d1 e.symm)),h.sts.same (zjY (λe=>h.d2 e.symm)),h.mrk.same (zjY (λe=>h.d3 e.symm)),h.d1,h.d2,h.d3,h.d4,h.d5,h.d6,h.f1,h.f2,h.f3,h.f4⟩,⟨rfl,rfl,rfl,by simp[World.setCell],λb _ hn=>zjY (λe=>hn (.inl e))⟩,λb hb=>Or.inl hb⟩
theorem LW.cells(h:LW w p):w.cell? ⟨p.g,0,none⟩=some (.pointer (some ⟨p.gf,0,none⟩))/\w.cell? ⟨p.g,1,none⟩=some (.map (some p.gn))/\w.cell? ⟨p.g,2,none⟩=some (.map (some p.gs))/\w.cell? ⟨p.g,3,none⟩=some (.map (some p.gm))/\w.cell? ⟨p.g,4,none⟩=some (.int .i64 p.st)/\p.g<w.heap.size:=
 ⟨h.blk.cell 0,h.blk.cell 1,h.blk.cell 2,h.blk.cell 3,h.blk.cell 4,h.blk.lt⟩
end
end Go.Proofs.YtlibdcmcbinfnaaGreat
