/- Lemmas. -/
import Derived.Test.YtlibdcmcbinfnaaGreatMA40
set_option maxHeartbeats 100000000
set_option maxRecDepth 1000000
namespace Go.Proofs.YtlibdcmcbinfnaaGreat
open _root_.Go.Proofs.Tryz List Nat
open Go.RowKit
variable{X:Sc}{E:XS}{w:World}{F:Nat->Prop}{a:Option Addr}{n mb j:Nat}{zs xs:List Int}{z:Int}
theorem zAC(h:EOk X E):∀x∈E.R,Rg x.id:=by
 rcases h with ⟨n,rfl⟩ | ⟨X0,a,b,c,d,r⟩
 ·exact λx hx=>(by cases hx)
 ·intro x hx;have h1:x.id∈E.R.map Rc.id:=mem_map.2 ⟨x,hx,rfl⟩;rw[<-zea,c.recs x.id]at h1
  cases l:zai X0.S x.id with
  | true=>exact zdm l
  | false=>
   have:=b x.id;rw[l]at this;rw[(zdl this).1]at h1
   cases h1
theorem zso(h:EOk X E):E.S.length<=256:=by
 have h1:=zef (m:=E.R.map Rc.id) h.si.names (λx hx=>(h.has x).1 ((zbd h.si).2 hx));rw[length_map,length_map]at h1;exact Nat.le_trans h1 h.rlen
theorem zvL{W:World}(h:Fr w W F)(row:Row w a n zs)(Kj:n=0∨∀ad,a=some ad->¬F ad.block):Row W a n zs:=zbI row Kj h
section
variable {XB:World->Nat->(Nat->Prop)->Sc->Prop} {FB:World->Nat->(Nat->Prop)->FD->Prop}
theorem zpc(hX:XC XB)(hC:FWE FB){w:World}{g gs:Nat}{F Fs:Nat->Prop}{E:XS}{X:Sc}(h0:LEB FB w g F E)(sb:XB w gs Fs X)(hap:∀b,F b->¬Fs b)(hS:SX3 X)(hE:EOk X E)(hB:BSc X 250)(KJ:EBd E 100)(hsl:∀p∈E.S,p.2<256)(Dj:X.S.room<=19):
  Calls prog 32 #[.pointer (some ⟨g,0,none⟩),.pointer (some ⟨gs,0,none⟩)] w λe w'=>∃v zs er E1,e= .returned (.tuple #[v,.int .i64 er])/\ChB (LEB FB) w w' g F E1/\((er=0/\LRes w w' zs v/\Synced X E zs 0 E1)∨(er≠0/\Synced X E [] er (XSn E1.n))):=by
 obtain⟨gf,Ff,vr,mb,h,hF⟩:=h0;have xW:BSc X 900:=hB.mono om;have hin:=h.inb hC;have RA:Hid (∀W,Fr w W F->XB W gs Fs X):=kA (λW k=>hX.kb.keep_ _ _ _ _ _ sb (λb c=>k.2.2.2.2 b (hX.kb.inb _ _ _ _ sb b c) (λd=>hap b d c)));have HC:=kA hC;have Z3:=kA hX;have xj:=kA h;have HF:=kA hF;have HS:=kA hS;have HE:=kA hE;have VW:=kA hsl;have KC:=kA xW;have Kq:Hid (∀b,F b->b<w.heap.size):=kA (λb c=>hin b ((hF b).1 c));have VX:=kA (hX.gone w gs Fs X E.since hS.wx xW sb);obtain⟨go,hgo⟩:∃go,go=goL X.S E.since:=⟨_,rfl⟩;have eu:=kA hgo;have DI:go.length<=250:=by rw[hgo];exact Nat.le_trans (zvG _ _) hB.2.1
 have Ce:Hid (Rgs go):=kA (by rw[hgo];exact zvF hS.go _);rw[<-hgo]at VX;obtain⟨ra,rcap,B6,yO,qn,-⟩:=h.rc.row zaz;have Qp:=hE.rlen;obtain⟨rn,RH⟩:∃rn,rn=E.R.length:=⟨_,rfl⟩;have ew:=kA RH;rw[<-RH]at B6 yO Qp;have c3:w.cell? ⟨g,3,none⟩=some (.int .i64 E.since):=h.blk.cell 3;have hg:=h.blk.lt;obtain⟨sn,J3⟩:∃sn,sn=E.since:=⟨_,rfl⟩;have Dz:=kA J3;rw[<-J3]at c3 VX;have gE:E.n<=200000:=by have:=KJ.2;omega
 obtain⟨D0,QI⟩:∃D0,D0=E.D:=⟨_,rfl⟩;have HK:=hE.know hS;have B7:Hid (DOk D0):=kA (QI ▸ HK.dok);have J4:D0.L.length<=256:=QI ▸ hE.len;obtain⟨D1,QJ⟩:∃D1,D1=zbs D0 go:=⟨_,rfl⟩;have eA:Hid (DOk D1):=kA (QJ ▸ B7.out.drops go);have eC:D1.L.length<=256:=by rw[QJ];exact Nat.le_trans (zfx go D0 256 J4).1 J4
 obtain⟨l,hl⟩:∃l,l=(chL X.S sn).map (zaS X):=⟨_,rfl⟩;have gG:l.length<=250:=by
  rw[hl,length_map];have:=zvK X.S sn;have:=hB.1;omega
 have DN:Hid (∀q∈l,Rg q.id/\Rg q.par):=kA (λq hq=>by
  rw[hl]at hq;obtain⟨x,hx,rfl⟩:=mem_map.1 hq
  exact zja hS.wx (zee.1 hx).1)
 obtain⟨D2,RI⟩:∃D2,D2=zcu D1 l:=⟨_,rfl⟩;have C1:D2=zaC X E.D E.since:=by rw[RI,QJ,hl,hgo,QI,J3];rfl
 have B8:Hid (zct D1 l=0):=kA (by
  have:=zi8 hS.wx HK (λ_=>zex hS.wx);rw[QJ,hl,hgo,QI,J3]
  exact this)
 have dZ:Hid (DOk D2):=kA (C1 ▸ hE.take hS);have RJ:D2.L.length<=256:=by rw[C1];exact zfb hS.wx (hE.take hS).nod (hE.nodes hS)
 have RL:D2.steps<=1000000:=by rw[C1,zig];have:=KJ.1;omega
 have ZH:Hid (zcT X D2.L):=kA (C1 ▸ hE.nodes hS);have xM:(zaV X E).length<=600:=Nat.le_trans (zih hS hE) (by have:=hB.2.1;omega);have Zh:Hid (zaV X E=zbY (zah D2++go)):=kA (by unfold zaV;rw[C1,hgo]);obtain⟨zs,dW⟩:∃zs,zs=zaV X E:=⟨_,rfl⟩;have Xn:=kA dW;rw[<-dW]at xM Zh;have qt:Hid (Rgs zs):=kA (dW ▸ zrP hS hE);have B9:Hid (zs.Pairwise (·<·)):=kA (dW ▸ zkE hS hE);have Y2:=kA C1;have RN:=kA QI;have RO:=kA QJ;have RP:=kA RI;have DT:=kA hl;have nb:=kA (zAC hE);have DD:=kA hE.rise;subst B6;have J5:=kA Dj;clear hX hC h hF sb hap hS hE hB KJ hsl Dj xW hin hgo RH J3 HK QI QJ hl RI C1 dW;go_enter func32,ntmps32;go_wp2_with fail;refine VX.out.mono ?_;rintro e w1 ⟨v1,rfl,⟨ia,icap,rfl,irow,iaw⟩,b1⟩;have Jq:=kA irow;have nc:=kA iaw;have Hg:=kA b1;have D6:Hid (LWE FB w1 w1 g gf mb F Ff (.slice ra rn rcap) D0 E.R (slM E.S) sn E.n):=kA (by rw[RN.out,Dz.out];exact xj.out.lw HC.out HF.out b1);obtain⟨c0,-,-,-,-,KF⟩:=D6.out.reads;have xk:=kA (HC.out.drop w1 gf Ff D0 ia go.length icap go B7.out om D6.out.fl om irow (iaw.imp id (λq ad e c=>by have:=q ad e;have:=Kq.out _ ((HF.out _).2 (.inr (.inl c)));omega)) Ce.out);clear irow iaw b1 c3 hg VX xj;obtain⟨ng,RQ⟩:∃ng,ng=go.length:=⟨_,rfl⟩;rw[<-RQ]at Jq nc xk DI ⊢;have eD:=kA RQ;clear RQ;go_wp2_with fail;refine xk.out.mono ?_;rintro e w2 ⟨rfl,NZ,f1,N0,sub1⟩;rw[<-RO.out]at f1;have DW:=kA (D6.out.flow f1 N0 sub1);clear f1 N0 sub1 xk D6 c0 KF;obtain⟨c0,-,-,c3,-,Ko⟩:=DW.out.reads;have SA:=kA (And.intro c0 c3)
 have H9:Hid (∀W,Bw w2 W->Calls prog 71 #[.pointer (some ⟨gs,0,none⟩),.int .i64 sn] W λe w'=>∃v,e= .returned v/\OwnX 15 cNd 205 w' W.heap.size v l/\Bw W w'):=kA (λW q=>by
  have h1:=zmn Z3 (RA W (Fr.after Hg (Fr.behind DW.fr q))) HS.wx KC sn;rw[<-DT.out]at h1
  exact h1)
 clear c0 c3;go_wp2;refine wp_region_held_drew (S:=λw'=>w'.cell? ⟨g,0,none⟩=some (.pointer (some ⟨gf,0,none⟩))/\w'.cell? ⟨g,3,none⟩=some (.int .i64 sn)) oM (SA.out) (λhHeld=> ?_);refine tk 0 hHeld ?_;refine tk 1 hHeld ?_;refine tk 2 hHeld ?_;refine tk 3 hHeld ?_;refine tk 4 hHeld ?_;refine tk 5 hHeld ?_;refine tk 6 hHeld ?_;refine tk 7 hHeld ?_;refine tk 8 hHeld ?_;refine tk 9 hHeld ?_;refine tk 10 hHeld ?_;refine rd 11 (λK hK=> ?_);go_simp;refine (H9 _ (zcV w2)).mono ?_;rintro e w3 ⟨v3,rfl,nh,b3⟩;have KL:Bw w2 w3:=zad (zcV w2) b3;have Xm:=kA (DW.keep HC KL);obtain⟨la,lcap,rfl,-,-,lrow⟩:=nh.row zft
 have xY:Hid (Calls prog 70 #[.pointer (some ⟨gf,0,none⟩),.slice la l.length lcap] w3 λe w'=>e= .returned (.int .i64 0)/\ChX FB w3 w' gf NZ D2):=kA (by
  have q:=HC.put w3 gf NZ D1 la l.length lcap l eA om Xm.fl om lrow DN;rw[B8.out,<-RP.out]at q
  exact q)
 obtain⟨nl,Q8⟩:∃nl,nl=l.length:=⟨_,rfl⟩;rw[<-Q8]at xY ⊢;obtain⟨c0,-,-,c3,-,KO⟩:=Xm.out.reads;have N1:=kA (And.intro c0 c3);clear KL b3 lrow nh DW SA H9 Ko Q8 c0 c3 DN B8;go_wp2_with fail;go_wp2_with fail;refine hK.out _ _ (N1.out) (λhHeld=> ?_);clear hK K;refine rd 12 (λK hK=> ?_);go_simp;refine xY.out.mono ?_;rintro e w4 ⟨rfl,EH,f2,vX,sub2⟩;have VY:=kA (Xm.out.flow f2 vX sub2);clear f2 vX sub2 xY Xm N1 KO;obtain⟨c0,-,-,c3,-,cH⟩:=VY.out.reads;go_wp2_with fail;go_wp2_with fail;refine hK.out _ _ (⟨c0,c3⟩) (λhHeld=> ?_);clear hK K;refine tk 13 hHeld ?_;refine wpAnyH_done oM ?_ _;clear hHeld;have nj:=kA (HC.out.run w4 gf EH D2 dZ.out om RL VY.out.fl);go_wp2_with fail;refine nj.out.mono ?_;rintro e w5 ⟨v5,rfl,⟨ta,tcap,rfl,trow,-⟩,sE,f3,N2,sub3⟩;have qA:=kA (VY.out.flow f3 N2 (λb c=>Or.inl (sub3 b c)));have J6:Hid (Row w5 ia ng go):=kA (zvL qA.out.fr Jq.out (nc.out.imp (λq=>by have:=eD.out;omega) (λq ad e c=>by have:=q ad e;have:=Kq.out _ c;omega)));have YY:(zah D2).length<=256:=Nat.le_trans (zdX dZ.out.wf) RJ;have KB:=Blk.new w5 35 #[.slice ta (zah D2).length tcap,.slice ia ng icap];have Hl:Bw w5 (w5.alloc (.cells #[.slice ta (zah D2).length tcap,.slice ia ng icap] 35)):=zaa _ _;have yL:=kA (zo8 w5.heap.size ta ia (zah D2).length tcap ng icap 2 (zah D2) go _ (KB.cell 0) (KB.cell 1) (zar trow Hl) (zar J6.out Hl) om om);have Cs:=kA Hl;obtain⟨nt,J7⟩:∃nt,nt=(zah D2).length:=⟨_,rfl⟩;have gH:=kA J7;rw[<-J7]at yL Cs YY ⊢;obtain⟨re,yw⟩:∃re,re=zeC D2:=⟨_,rfl⟩;have dU:=kA yw;rw[<-yw];clear f3 N2 sub3 nj VY c0 c3 cH trow KB Hl J7 yw;go_wp2_with fail;refine yL.out.mono ?_;rintro e w6 ⟨v6,rfl,VZ,b6⟩;have nu:Bw w5 w6:=zad Cs.out b6;have kj:w5.heap.size<=(w5.alloc (.cells #[.slice ta nt tcap,.slice ia ng icap] 35)).heap.size:=Cs.out.size;obtain⟨base,yx⟩:∃base,base=(w5.alloc (.cells #[.slice ta nt tcap,.slice ia ng icap] 35)).heap.size:=⟨_,rfl⟩;have RR:base<=w6.heap.size:=yx ▸ b6.size;rw[<-yx]at VZ kj;have cQ:=kA VZ;have dY:=kA nu;have Dl:=kA (zeO VZ om);clear VZ nu b6 yx yL Cs J6;go_wp2_with fail;refine Dl.out.mono ?_;rintro e w7 ⟨rfl,QK,xl⟩;have ny:(zah D2++go).mergeSort (λx y=>decide (x<=y))=zs:=by rw[Zh.out];exact zm2 (List.Perm.refl _)
 rw[ny]at QK;have nz:zs.length=nt+ng:=by
  have q:=QK.1;rw[length_map,Nat.mul_one]at q;exact q
 rw[<-nz]at QK;have nA:Hid (Bw w5 w7):=kA (zbm cQ kj dY xl);have V0:=kA (qA.keep HC nA);obtain⟨na,ncap,rfl,nrow⟩:=QK.row;have J8:=kA QK;have Si:g<base/\mb<base/\(∀b,sE b->b<base)/\w1.heap.size<=base:=by
  have h1:=qA.blk.lt;have h2:=qA.mp.lt;have h3:=HC.inb _ _ _ _ qA.fl;have h4:=qA.fr.2.2.2.1;exact⟨om,om,λb c=>by have:=h3 b c;omega,om⟩
 obtain⟨eE,eF,J9,RU⟩:=Si;have eG:=kA J9;obtain⟨-,-,-,-,c4,RV⟩:=V0.reads;obtain⟨n,hn⟩:∃n,n=zs.length:=⟨_,rfl⟩;have yW:=kA hn;rw[<-hn]at J8 xM ⊢;have jL:IntKind.i64.wrap ((E.n:Int)+(n:Int))=((E.n+n:Nat):Int):=by rw[IntKind.wrap_i64];omega
 have Dv:Hid (LWE FB w1 (w7.setCell ⟨g,4,none⟩ (.int .i64 ((E.n+n:Nat):Int))) g gf mb F sE (.slice ra rn rcap) (zc4 D2) E.R (slM E.S) sn ((E.n+n:Nat):Int)):=kA (V0.setN HC _);have Xv:Hid (OwnD (w7.setCell ⟨g,4,none⟩ (.int .i64 ((E.n+n:Nat):Int))) base (.slice na n ncap) n zs):=kA (zdU J8 (λb e=>(zaT w7 g 4 _).block b (World.ownsRow.lt J8 b e).2 (by intro q;injection q with q;have:=(World.ownsRow.lt J8 b e).1;omega)));have f4:w7.frozen? ⟨g,4,none⟩=false:=V0.blk.frozen 4;obtain⟨nn,Ka⟩:∃nn:Int,nn=((E.n+n:Nat):Int):=⟨_,rfl⟩;rw[<-Ka]at jL Dv Xv;have RY:=kA Ka;obtain⟨en,Rp⟩:∃en:Int,en=(E.n:Int):=⟨_,rfl⟩;rw[<-Rp]at jL c4;have RZ:base<=w7.heap.size:=Nat.le_trans (Nat.le_trans RR (Nat.le_refl _)) xl.size;clear QK xl ny nrow Dl cQ dY nA V0 qA J9 hn Ka Rp J8 Zh;go_upto_region 10 with fail;refine fin (λW=>LWE FB w1 W g gf mb F sE (.slice ra rn rcap) (zc4 D2) E.R (slM E.S) sn nn/\OwnD W base (.slice na n ncap) n zs/\base<=W.heap.size) ⟨Dv,Xv.out,Nat.le_trans RZ (zaT w7 g 4 _).size⟩ ?_;clear Dv Xv c4 f4 RV;rintro w8 ⟨l8,o8,eH⟩;have Dv:=kA l8;have Xv:=kA o8;clear l8 o8 nz;have Cx:Hid (ChB (LEB FB) w w8 g F ⟨zc4 D2,E.R,E.S,sn,E.n+n⟩):=kA (Dv.done Hg rfl rfl rfl rfl RY.symm)
 by_cases yw:re=0
 ·have dM:Hid (zeC D2=0):=kA (dU.out ▸ yw);subst yw;clear Cx;obtain⟨c0,c1,-,-,-,yR⟩:=Dv.out.reads;have yy:Row w8 na n zs:=by
   obtain⟨a',cap',e,r⟩:=Xv.row;injection e with e1 e2 e3;rw[e1];exact r
  have vc:=kA yy;have nB:=kA (zsh (o:=oX X D2.L) (eo:=eX X D2.L) (cap:=ncap) Z3 HC (RA w8 (Fr.after Hg Dv.fr)) Dv.fl c0 yy HS.wx KC dZ.run (by show D2.L.length<=300;omega) om qt (λx=>zuz HS.wx dZ ZH dM x));clear c0 yy;go_wp2_with fail;refine nB.mono ?_;rintro e w9 ⟨v9,er,rfl,jO,nC,b9⟩;have qB:=kA b9;have zE:=kA (Dv.keep HC b9);have zW:=kA jO;have eI:=kA nC;clear b9 jO nC nB c1 yR
  by_cases R3:er=0
  ·subst R3;have xN:=kA (eI rfl);obtain⟨fa,fcap,R5,jf,gI,-⟩:=xN.row zaz;obtain⟨fr,kw⟩:∃fr,fr=zs.filterMap (oX X D2.L):=⟨_,rfl⟩;have cW:=kA kw;have Vj:fr.length<=n:=by rw[kw,yW.out];exact length_filterMap_le _ _
   rw[<-kw]at xN R5 jf;obtain⟨nf,Qy⟩:∃nf,nf=fr.length:=⟨_,rfl⟩;have JC:=kA Qy;rw[<-Qy]at R5 jf Vj;subst R5;have R6:Hid (zdy fr):=kA (by rw[kw];exact zdp (λx r q=>zkA q) B9)
   have R7:Hid (fr.length<=19):=kA (by
    have h1:=zkL HS.wx (us:=fr.map Rc.id) (List.pairwise_map.2 (R6.imp (fun {a b} h e=>om))) (λu m=>by
     rw[kw,zfc (λx r q=>zkA q)]at m
     cases l:zai X.S u with
     | true=>rfl
     | false=>
      have hN:=ZH.out u;rw[l,if_neg (by simp)]at hN;have m2:=m.2;rw[(zdl hN).1]at m2
      cases m2)
    rw[length_map]at h1
    exact Nat.le_trans h1 J5)
   have V6:Hid (Rgs (fr.map Rc.id)):=kA (λx hx=>by
    rw[kw,zfc (λx r q=>zkA q)]at hx
    exact qt x hx.1)
   obtain⟨-,c1,-,-,-,xR⟩:=zE.reads;have yN:zbz w9 ra rn E.R:=by
    obtain⟨a',cap',e,_,_,r⟩:=zE.rc.row zaz;injection e with e1 e2 e3;rw[e1,e2];exact r
   have YO:=kA (zoM ra rn rcap E.R na n ncap zs w9 yN (zar vc qB) om om nb qt);clear yN kw Qy;go_wp2_with fail;refine YO.mono ?_;rintro e vV ⟨sD,rfl,ve,Zx⟩;obtain⟨xa,xcap,rfl,Vw,nD,VV⟩:=ve.row zaz;have nE:zbz vV fa nf fr:=by
    obtain⟨a',cap',e,_,_,r⟩:=(xN.keep Zx).row zaz;injection e with e1 e2 e3;rw[e1,e2];exact r
   have R8:(zhy E.R zs).length<=256:=by
    have q:=length_filter_le (λr:Rc=> !decide (r.id∈zs)) E.R;unfold zhy;have:=ew.out;omega
   have Cj:=kA (zuP xa (zhy E.R zs).length xcap (zhy E.R zs) fa nf fcap fr vV VV nE Vw nD (zt9 DD zs) om (by rw[JC.out];exact R7));have Y3:=kA Zx;obtain⟨nx,qv⟩:∃nx,nx=(zhy E.R zs).length:=⟨_,rfl⟩;rw[<-qv]at Cj ⊢;have yP:=kA qv;clear ve Zx Vw nD VV nE qv YO c1 xR R8;go_wp2_with fail;refine Cj.mono ?_;rintro e yE ⟨GQ,R',rfl,xI,vT⟩;obtain⟨va,vcap,vf,-,-,-⟩:=xI.1.row zaz;obtain⟨nr,QE⟩:∃nr,nr=R'.length:=⟨_,rfl⟩;rw[<-QE]at vf;subst vf;clear QE;have eJ:=kA xI;have Y4:=kA ((zE.keep HC Y3).keep HC.out vT);have R9:Hid (Bw w8 yE):=kA (zad qB (zad Y3 vT));have eK:w8.heap.size<=vV.heap.size:=Nat.le_trans qB.size Y3.size;have Xb:Hid (LWE FB w1 (yE.setCell ⟨g,1,none⟩ (.slice va nr vcap)) g gf mb F sE (.slice va nr vcap) (zc4 D2) R' (slM E.S) sn nn):=kA (Y4.setR HC xI.1 (λb c=>by have:=eG.out b c;omega) om om om);have f1:yE.frozen? ⟨g,1,none⟩=false:=Y4.blk.frozen 1;obtain⟨-,c1,-,-,-,YT⟩:=Y4.reads
   have qC:Hid (∀W,(∀b,base<=b->b<yE.heap.size->W.heap[b]? =yE.heap[b]?)->OwnD W base (.slice na n ncap) n zs/\zbz W fa nf fr):=kA (λW q=>by
    have o1:=zdU Xv (λb e=>R9.block b (World.ownsRow.lt Xv b e).2);have o2:=(xN.keep Y3).keep vT;refine⟨zdU o1 (λb e=>q b (World.ownsRow.lt o1 b e).1 (World.ownsRow.lt o1 b e).2),?_⟩;obtain⟨a',cap',e,_,_,r⟩:=(o2.same (λb e=>q b (by have:=(o2.lt b e).1;omega) (o2.lt b e).2)).row zaz;injection e with e1 e2 e3
    rw[e1,e2];exact r)
   have vg:Hid (∀W,OwnD W base (.slice na n ncap) n zs->Row W na n zs):=kA (λW o=>by
    obtain⟨a',cap',e,r⟩:=o.row;injection e with e1 e2 e3
    rw[e1];exact r)
   have nG:Hid (Wk (oX X D2.L) E.R zs R'):=kA (zux (λx r q=>zkA q) B9 xI.2.2.1 (λk=>by rw[xI.2.2.2 k,cW.out]))
   have tc:Hid (∀k,k∈R'.map Rc.id↔if k∈zs then k∈fr.map Rc.id else k∈E.R.map Rc.id):=kA (λk=>by
    rw[zoU nG k]
    by_cases c:k∈zs
    ·rw[if_pos c,if_pos c,cW.out,zfc (λx r q=>zkA q)];exact⟨λq=>⟨c,q⟩,λq=>q.2⟩
    ·rw[if_neg c,if_neg c])
   have QL:=HE.si;have nH:SI (zf3 (R'.map Rc.id) E.S):=QL.filter _;have vh:=zxF (zs:=zs) (fr:=fr) QL HE.has tc
   have vi:=zr8 (zs:=zs) QL HE.has xI.2.2.1 R6 tc (λk hk=>by
    rw[cW.out,zfc (λx r q=>zkA q)]at hk
    exact hk.1)
   have JQ:∀p∈zf3 (R'.map Rc.id) E.S,Rg p.1/\0<=p.2/\p.2<1000:=λp hp=>by
    have hp':p∈E.S:=(mem_filter.1 hp).1;have h1:=VW.out p hp';have h2:p.1∈E.R.map Rc.id:=(HE.out.has p.1).1 ((zbd QL).2 (mem_map.2 ⟨p,hp',rfl⟩));obtain⟨r,hr,e⟩:=mem_map.1 h2;exact⟨e ▸ nb.out r hr,QL.pos p hp',om⟩
   have C9:(zf3 (R'.map Rc.id) E.S).length<=1000:=Nat.le_trans (length_filter_le _ _) (Nat.le_trans (zso HE) om);have Dt:=zaT yE g 1 (.slice va nr vcap)
   have Zs:Hid (∀W,W=yE.setCell ⟨g,1,none⟩ (.slice va nr vcap)->Calls prog 78 #[.pointer (some ⟨g,0,none⟩),.slice na n ncap,.slice fa nf fcap] W λe w'=>e= .returned (.tuple #[])/\MF sK13 w' mb (slM (zcN (R'.map Rc.id) E.S))/\W.grownBy w' (some mb)):=kA (λW hW=>by
    subst hW;rw[vi];refine zpb Xb.mp (kA (λW q=> ?_)) R6 nH vh qt V6 JQ C9 om om;have h3:=qC.out W (λb h1 h2=>(q.block b (Nat.lt_of_lt_of_le h2 Dt.size) (by intro e;injection e with e;omega)).trans (Dt.block b h2 (by intro e;injection e with e;omega)));have hk:=Xb.blk.same (q.block g Xb.blk.lt (by intro e;injection e with e;exact Xb.mg e.symm))
    exact⟨vg W h3.1,h3.2,hk.cell 2,hk.lt⟩)
   have vj:Hid (∀W,(yE.setCell ⟨g,1,none⟩ (.slice va nr vcap)).grownBy W (some mb)->OwnD W base (.slice na n ncap) n zs):=kA (λW q=>(qC W (λb h1 h2=>(q.block b (Nat.lt_of_lt_of_le h2 Dt.size) (by intro e;injection e with e;omega)).trans (Dt.block b h2 (by intro e;injection e with e;omega)))).1);clear xI vT Cj Dt QL nH vh vi JQ C9 qC vg tc;go_upto_region 16 with fail;go_wp2_with fail;refine (Zs _ rfl).mono ?_;rintro e vW ⟨rfl,vk,qD⟩;have qE:=kA (Xb.setM HC qD vk);have qF:=kA (vj vW qD);have nI:=kA (Z3.tick vW gs Fs X HS.wx KC (RA vW (Fr.after Hg qE.fr)));clear vk qD Zs vj Xb Y4 c1 f1 YT;go_wp2_with fail;refine nI.mono ?_;rintro e Yj ⟨rfl,qT⟩;have Y5:=kA (qE.keep HC qT);have Y6:Hid (OwnD Yj base (.slice na n ncap) n zs):=kA (zdU qF (λb e=>qT.block b (World.ownsRow.lt qF b e).2));have f3:Yj.frozen? ⟨g,3,none⟩=false:=Y5.blk.frozen 3;obtain⟨-,-,-,c3,-,qm⟩:=Y5.reads;have vm:=kA (Y5.setT HC X.S.now);have Dt:=zaT Yj g 3 (.int .i64 X.S.now);have vn:Hid (OwnD (Yj.setCell ⟨g,3,none⟩ (.int .i64 X.S.now)) base (.slice na n ncap) n zs):=kA (zdU Y6 (λb e=>Dt.block b (World.ownsRow.lt Y6 b e).2 (by intro q;injection q with q;have:=(World.ownsRow.lt Y6 b e).1;omega)));have VE:w.heap.size<=base:=Nat.le_trans Hg.size RU;have CI:Hid (ChB (LEB FB) w (Yj.setCell ⟨g,3,none⟩ (.int .i64 X.S.now)) g F ⟨zc4 D2,R',zcN (R'.map Rc.id) E.S,X.S.now,E.n+n⟩/\LRes w (Yj.setCell ⟨g,3,none⟩ (.int .i64 X.S.now)) zs (.slice na n ncap)/\Synced X E zs 0 ⟨zc4 D2,R',zcN (R'.map Rc.id) E.S,X.S.now,E.n+n⟩):=kA ⟨vm.done Hg rfl rfl rfl rfl RY.symm,LRes.of9 vn VE,.inr (.inr ⟨by rw[<-Y2.out];exact dM.out,by rw[<-Y2.out,<-Xn.out];exact zW.symm,Xn.out,rfl,R',by rw[<-Y2.out,<-Xn.out];exact nG.out,by rw[<-Y2.out,<-Xn.out,<-yW.out]⟩)⟩;obtain⟨nw,cT⟩:∃nw,nw=X.S.now:=⟨_,rfl⟩;rw[<-cT]at CI ⊢;clear qT Dt qE qF nI Y5 Y6 vm vn cT VE;go_wp2;go_ret2;exact⟨_,zs,0,_,rfl,CI.1,.inl ⟨rfl,CI.2.1,CI.2.2⟩⟩
  ·have dH:=kA R3;have CI:Hid (∃E1:XS,ChB (LEB FB) w w9 g F E1/\Synced X E [] er (XSn E1.n)):=kA ⟨⟨zc4 D2,E.R,E.S,sn,E.n+n⟩,zE.done Hg rfl rfl rfl rfl RY.symm,.inr (.inl ⟨by rw[<-Y2.out];exact dM.out,by rw[<-Y2.out,<-Xn.out,<-zW.out];exact R3,rfl,by rw[<-Y2.out,<-Xn.out];exact zW.out,by rw[<-Xn.out,<-yW.out]⟩)⟩;clear Dv Xv zE;go_wp2;go_ret2;obtain⟨E1,k1,k2⟩:=CI;exact⟨_,[],er,E1,rfl,k1,.inr ⟨dH,k2⟩⟩
 ·have dH:=kA yw;have CI:Hid (∃E1:XS,ChB (LEB FB) w w8 g F E1/\Synced X E [] re (XSn E1.n)):=kA ⟨_,Cx.out,.inl ⟨by rw[<-Y2.out,<-dU.out];exact yw,rfl,by rw[<-Y2.out];exact dU.out,by rw[<-Xn.out,<-yW.out]⟩⟩;clear Dv Xv Cx;go_wp2;go_ret2;obtain⟨E1,k1,k2⟩:=CI;exact⟨_,[],re,E1,rfl,k1,.inr ⟨dH,k2⟩⟩
end
section
variable {XB:World->Nat->(Nat->Prop)->Sc->Prop} {FB:World->Nat->(Nat->Prop)->FD->Prop}
theorem zuQ(w w':World):LRes w w' [] (.slice none 0 0):=⟨none,0,rfl,⟨rfl,by show 0<=_;omega,.inl rfl⟩,.inl rfl⟩
theorem LRes.fr{w1 w2:World}{v:Value}(h:LRes w w1 zs v)(k:Fr w1 w2 F)(hF:∀b,F b->b<w.heap.size):LRes w w2 zs v:=by
 obtain⟨a,cap,rfl,row,Kj⟩:=h;exact⟨a,cap,rfl,zvL k row (Kj.imp id (λq ad e c=>by have:=q ad e;have:=hF _ c;omega)),Kj⟩
theorem zpd(hX:XC XB)(hC:FWE FB)(w:World)(g:Nat)(F:Nat->Prop)(E:XS)(gs:Nat)(Fs:Nat->Prop)(X:Sc)(h0:LEB FB w g F E)(sb:XB w gs Fs X)(hap:∀b,F b->¬Fs b)(hS:SX3 X)(hE:EOk X E)(hB:BSc X 250)(KJ:EBd E 100)(hsl:∀p∈E.S,p.2<256)(qn:X.S.room<=19):
  Calls prog 13 #[.pointer (some ⟨g,0,none⟩),.pointer (some ⟨gs,0,none⟩)] w λe w'=>∃v zs er E',e= .returned (.tuple #[v,.int .i64 er])/\LRes w w' zs v/\Synced X E zs er E'/\SyR (LEB FB) XB w w' g gs F Fs E' (zdG X):=by
 have hK:=zvI hC;have nJ:=kA (zpc hX hC h0 sb hap hS hE hB KJ hsl qn);have Vl:=hK.inb _ _ _ _ h0;have jE:=hX.kb.inb _ _ _ _ sb
 have yP:Hid (∀w1 F1 E1,LEB FB w1 g F1 E1->Fr w w1 F->(∀b,F1 b->F b∨w.heap.size<=b)->Calls prog 33 #[.pointer (some ⟨gs,0,none⟩)] w1 λe w2=>(∃v,e= .returned v)/\∃DZ,LEB FB w2 g F1 E1/\XB w2 gs DZ (zdG X)/\Fr w w2 (λb=>F b∨Fs b)/\(∀b,F1 b->F b∨w.heap.size<=b)/\(∀b,DZ b->Fs b∨w.heap.size<=b)/\(∀b,F1 b->¬DZ b)/\Fr w1 w2 Fs):=kA (λw1 F1 E1 h1 k1 k2=>by
  have EI:XB w1 gs Fs X:=hX.kb.keep_ _ _ _ _ _ sb (λb c=>k1.2.2.2.2 b (jE b c) (λd=>hap b d c));have xd:=hK.inb _ _ _ _ h1;have zt:∀b,F1 b->¬Fs b:=λb c d=>(k2 b c).elim (λz=>hap b z d) (λz=>by have:=jE b d;omega);refine (hX.next w1 gs Fs X hS.wx (hB.mono om) EI).mono ?_;rintro e w2 ⟨rfl,DZ,s1,s2,s3⟩;refine⟨⟨_,rfl⟩,DZ,hK.keep_ _ _ _ _ _ h1 (λb c=>s2.2.2.2.2 b (xd b c) (zt b c)),s1,?_,k2,λb c=>(s3 b c).imp id (λz=>Nat.le_trans k1.2.2.2.1 z),λb c d=>(s3 b d).elim (zt b c) (λz=>by have:=xd b c;omega),s2⟩
  exact Fr.two (k1.of (λb c=>Or.inl c)) s2 (λx c=>Or.inl (.inr c)))
 have V6:Hid (∀w2 F1 DZ E1,LEB FB w2 g F1 E1->XB w2 gs DZ (zdG X)->Fr w w2 (λb=>F b∨Fs b)->(∀b,F1 b->F b∨w.heap.size<=b)->(∀b,DZ b->Fs b∨w.heap.size<=b)->(∀b,F1 b->¬DZ b)->Calls prog 11 #[.pointer (some ⟨g,0,none⟩)] w2 λe w3=>e= .returned (.tuple #[])/\SyR (LEB FB) XB w w3 g gs F Fs (XSn E1.n) (zdG X)):=kA (λw2 F1 DZ E1 h1 h2 h3 h4 h5 h6=>by
  have xd:=hK.inb _ _ _ _ h1;have Yx:=hX.kb.inb _ _ _ _ h2;refine (zfV hC h1).mono ?_;rintro e w3 ⟨rfl,F2,s1,s2,s3⟩;refine⟨rfl,F2,DZ,s1,hX.kb.keep_ _ _ _ _ _ h2 (λb c=>s2.2.2.2.2 b (Yx b c) (λd=>h6 b d c)),?_,λb c=>(s3 b c).elim (h4 b) (λz=>Or.inr (Nat.le_trans h3.2.2.2.1 z)),h5,λb c d=>(s3 b c).elim (λz=>h6 b z d) (λz=>by have:=Yx b d;omega)⟩
  exact Fr.two h3 s2 (λx c=>(h4 x c).imp (λz=>Or.inl z) id))
 have DN:Hid (∀w1 w2 zs v,LRes w w1 zs v->Fr w1 w2 Fs->LRes w w2 zs v):=kA (λw1 w2 zs v h k=>h.fr k jE);clear hK hX hC h0 sb hap hS hE hB KJ hsl Vl jE;go_enter func13,ntmps13;go_wp2_with fail;refine nJ.mono ?_;rintro e w1 ⟨v,zs,er,E1,rfl,⟨F1,h1,k1,k2⟩,hc⟩;have HN:=kA (yP w1 F1 E1 h1 k1 k2);have zU:=kA hc;clear h1 k1 k2 hc nJ yP;go_wp2_with fail;refine HN.mono ?_;rintro e w2 ⟨⟨nv,rfl⟩,DZ,h1,h2,h3,h4,h5,h6,h7⟩;have HG:=kA (V6 w2 F1 DZ E1 h1 h2 h3 h4 h5 h6);have HR:Hid (SyR (LEB FB) XB w w2 g gs F Fs E1 (zdG X)):=kA ⟨F1,DZ,h1,h2,h3,h4,h5,h6⟩;have DW:=kA (λzs v h=>DN.out w1 w2 zs v h h7);clear h1 h2 h3 h4 h5 h6 h7 V6 DN HN
 by_cases he:er=0
 ·have CI:Hid (LRes w w2 zs v/\Synced X E zs 0 E1):=kA (by
   rcases zU.out with ⟨_,q1,q2⟩ | ⟨q,_⟩
   ·exact⟨DW zs v q1,q2⟩
   ·exact absurd he q)
  subst he;clear zU HG DW;go_wp2;go_ret2;exact⟨v,zs,0,E1,rfl,CI.1,CI.2,HR⟩
 ·have CI:Hid (Synced X E [] er (XSn E1.n)):=kA (by
   rcases zU.out with ⟨q,_⟩ | ⟨_,q⟩
   ·exact absurd q he
   ·exact q)
  clear zU DW HR;go_wp2_with fail;refine HG.mono ?_;rintro e w3 ⟨rfl,hs⟩;have HS:=kA hs;clear hs HG;go_wp2;go_ret2;exact⟨_,[],er,_,rfl,zuQ _ _,CI.out,HS⟩
theorem ec_holds(hX:XC XB)(hC:FWE FB):EC (LEB FB) XB where
 kb:=zvI hC
 new:=zsa hC
 forget _ _ _ _ h:=zfV hC h
 records _ _ _ _ h hl:=zjo h hl
 slot _ _ _ _ x h hs hx:=zoX h hs x hx
 steps _ _ _ _ h:=zmg h
 sync:=zpd hX hC
end
open Go.Shelf
def zff:Go.Shelf.Ren:=⟨fun | 7=>130 | 10=>199 | n=>n,fun | 23=>199 | 26=>81 | 3=>220 | 28=>208 | 0=>0 | 27=>207 | 33=>144 | 4=>4 | n=>n,fun | n=>n⟩
theorem zkS:Go.Proofs.SlLaysZI.n7 prog zff:={
 mixed:=oM
 f7:=⟨Tryz.f130.name,by decide,func130.trans (congrArg some oM)⟩
 f10:=⟨Tryz.f199.name,by decide,func199.trans (congrArg some oM)⟩
 t0:=underlying0
 a0:=isAgg0
 z0:=sizeOf0
 v0:=zeroValue0
 t4:=underlying4
 a4:=isAgg4
 z4:=sizeOf4
 v4:=zeroValue4
 t23:=underlying199
 a23:=isAgg199
 z23:=sizeOf199
 v23:=zeroValue199
 t26:=underlying81
 a26:=isAgg81
 z26:=sizeOf81
 v26:=zeroValue81
 t27:=underlying207
 a27:=isAgg207
 z27:=sizeOf207
 v27:=zeroValue207
 t28:=underlying208
 a28:=isAgg208
 z28:=sizeOf208
 v28:=zeroValue208
 t33:=underlying144
 a33:=isAgg144
 z33:=sizeOf144
 v33:=zeroValue144 }
def zfg:Go.Shelf.Ren:=⟨fun | 7=>201 | 10=>255 | n=>n,fun | 23=>197 | 26=>81 | 3=>215 | 28=>208 | 0=>0 | 27=>207 | 33=>144 | 4=>4 | n=>n,fun | n=>n⟩
theorem zkT:Go.Proofs.SlLaysZI.n7 prog zfg:={
 mixed:=oM
 f7:=⟨Tryz.f201.name,by decide,func201.trans (congrArg some oM)⟩
 f10:=⟨Tryz.f255.name,by decide,func255.trans (congrArg some oM)⟩
 t0:=underlying0
 a0:=isAgg0
 z0:=sizeOf0
 v0:=zeroValue0
 t4:=underlying4
 a4:=isAgg4
 z4:=sizeOf4
 v4:=zeroValue4
 t23:=underlying197
 a23:=isAgg197
 z23:=sizeOf197
 v23:=zeroValue197
 t26:=underlying81
 a26:=isAgg81
 z26:=sizeOf81
 v26:=zeroValue81
 t27:=underlying207
 a27:=isAgg207
 z27:=sizeOf207
 v27:=zeroValue207
 t28:=underlying208
 a28:=isAgg208
 z28:=sizeOf208
 v28:=zeroValue208
 t33:=underlying144
 a33:=isAgg144
 z33:=sizeOf144
 v33:=zeroValue144 }
def zfh:Go.Shelf.Ren:=⟨fun | 7=>124 | 10=>190 | n=>n,fun | 23=>204 | 26=>81 | 3=>205 | 28=>208 | 0=>0 | 27=>207 | 33=>144 | 4=>4 | n=>n,fun | n=>n⟩
theorem zkU:Go.Proofs.SlLaysZI.n7 prog zfh:={
 mixed:=oM
 f7:=⟨Tryz.f124.name,by decide,func124.trans (congrArg some oM)⟩
 f10:=⟨Tryz.f190.name,by decide,func190.trans (congrArg some oM)⟩
 t0:=underlying0
 a0:=isAgg0
 z0:=sizeOf0
 v0:=zeroValue0
 t4:=underlying4
 a4:=isAgg4
 z4:=sizeOf4
 v4:=zeroValue4
 t23:=underlying204
 a23:=isAgg204
 z23:=sizeOf204
 v23:=zeroValue204
 t26:=underlying81
 a26:=isAgg81
 z26:=sizeOf81
 v26:=zeroValue81
 t27:=underlying207
 a27:=isAgg207
 z27:=sizeOf207
 v27:=zeroValue207
 t28:=underlying208
 a28:=isAgg208
 z28:=sizeOf208
 v28:=zeroValue208
 t33:=underlying144
 a33:=isAgg144
 z33:=sizeOf144
 v33:=zeroValue144 }
def zd2:Go.Shelf.Ren:=⟨fun | 6=>123 | 8=>189 | 9=>74 | 11=>250 | 13=>135 | 12=>134 | 23=>211 | 24=>212 | 14=>202 | 15=>203 | 16=>204 | 17=>205 | 18=>206 | 19=>207 | 20=>208 | 21=>209 | 22=>210 | 25=>256 | 26=>257 | 27=>258 | 28=>259 | 29=>260 | 30=>261 | 31=>288 | n=>n,fun | 26=>81 | 28=>208 | 24=>35 | 0=>0 | 3=>3 | 37=>226 | 48=>295 | 50=>297 | 4=>4 | 40=>289 | 39=>288 | 45=>127 | 5=>5 | 9=>9 | 51=>338 | 55=>342 | 57=>374 | 58=>253 | 33=>144 | n=>n,fun | n=>n⟩
theorem zey:Go.Proofs.SlLaysZI.n6 prog zd2:={
 mixed:=oM
 f6:=⟨Tryz.f123.name,by decide,func123.trans (congrArg some oM)⟩
 f8:=⟨Tryz.f189.name,by decide,func189.trans (congrArg some oM)⟩
 f11:=⟨Tryz.f250.name,by decide,func250.trans (congrArg some oM)⟩
 t0:=underlying0
 a0:=isAgg0
 z0:=sizeOf0
 v0:=zeroValue0
 t24:=underlying35
 a24:=isAgg35
 z24:=sizeOf35
 v24:=zeroValue35
 t26:=underlying81
 a26:=isAgg81
 z26:=sizeOf81
 v26:=zeroValue81
 t28:=underlying208
 a28:=isAgg208
 z28:=sizeOf208
 v28:=zeroValue208
 i26:=by kernel_rfl }
theorem lMs(M:Nat->Int):∀u∈lM M,zoF u:=λu hu=>by
 unfold lM at hu;simp only[mem_cons,not_mem_nil,or_false]at hu;rcases hu with h | h | h | h | h | h | h | h | h | h | h | h <;> exact .inl ⟨_,_,h⟩
abbrev BD:=(Nat->Int) × Bool
abbrev RD:=Stt × Nat
def zB:BD:=(λ_=>0,false)
def zRf:RD:=(zSt,0)
def cBd(p:BD):List Value:=[.int .i64 (p.1 0),.int .i64 (p.1 1),.int .i64 (p.1 2),.int .i64 (p.1 3),.int .i64 (p.1 4),.int .i64 (p.1 5),.int .i64 (p.1 6),.int .i64 (p.1 7),.int .i64 (p.1 8),.int .i64 (p.1 9),.int .i64 (p.1 10),.int .i64 (p.1 11),.bool p.2]
def cSd(p:RD):List Value:=[.int .i64 (p.1.wo 0),.int .i64 (p.1.wo 1),.int .i64 (p.1.wo 2),.int .i64 (p.1.wo 3),.int .i64 (p.1.wo 4),.int .i64 (p.1.wo 5),.int .i64 (p.1.wo 6),.int .i64 (p.1.wo 7),.int .i64 (p.1.wo 8),.int .i64 (p.1.wo 9),.int .i64 (p.1.wo 10),.int .i64 (p.1.wo 11),.bool p.1.sh,.int .i64 p.2]
theorem zvM(p:BD):cBd p=lM p.1++[.bool p.2]:=rfl
theorem zvN(p:RD):cSd p=lM p.1.wo++[.bool p.1.sh,.int .i64 p.2]:=rfl
theorem zzk(n:Nd):cNd n=[.int .i64 n.id,.int .i64 n.par]++lM n.pl++[.bool n.hid]:=rfl
theorem zvb(w:World):(zeroValue 215).run prog w= .ok (.agg (cBd zB).toArray) w:=oM
theorem zvr(w:World):(zeroValue 299).run prog w= .ok (.agg (cSd zRf).toArray) w:=oM
theorem zvn(w:World):(zeroValue 205).run prog w= .ok (.agg (cNd zNd).toArray) w:=oM
theorem zvx(w:World):(zeroValue 220).run prog w= .ok (.agg #[]) w:=oM
def bK:MK BD:=mkA 197 215 (λo=> .agg (cBd (o.getD zB)).toArray) underlying197 zvb (λo=>⟨_,rfl,λu hu=>by
 rw[zvM]at hu;rcases mem_append.1 hu with h | h
 ·exact lMs _ u h
 ·exact .inr ⟨_,mem_singleton.1 h⟩⟩)
def sK:MK RD:=mkA 198 299 (λo=> .agg (cSd (o.getD zRf)).toArray) underlying198 zvr (λo=>⟨_,rfl,λu hu=>by
 rw[zvN]at hu;rcases mem_append.1 hu with h | h
 ·exact lMs _ u h
 ·rcases mem_cons.1 h with h | h
  ·exact .inr ⟨_,h⟩
  ·exact .inl ⟨_,_,mem_singleton.1 h⟩⟩)
def nK:MK Nd:=mkA 204 205 (λo=> .agg (cNd (o.getD zNd)).toArray) underlying204 zvn (λo=>⟨_,rfl,λu hu=>by
 rw[zzk]at hu;rcases mem_append.1 hu with h | h
 ·rcases mem_append.1 h with h | h
  ·rcases mem_cons.1 h with h | h
   ·exact .inl ⟨_,_,h⟩
   ·exact .inl ⟨_,_,mem_singleton.1 h⟩
  ·exact lMs _ u h
 ·exact .inr ⟨_,mem_singleton.1 h⟩⟩)
def xK:MK Unit:=mkA 199 220 (λ_=> .agg #[]) underlying199 zvx (λ_=>⟨[],rfl,λu hu=>by cases hu⟩)
theorem MF.clear{α:Type}{k:MK α}{m:Int->Option α}(h:MF k w mb m):
  ∃w',(∀ty,(Builtin.clear_ #[k.t] ty #[.map (some mb)]).run prog w= .ok (.tuple #[]) w')/\MF k w' mb (λ_=>none)/\w.grownBy w' (some mb):=by
 obtain⟨D,⟨es,clock,hb,F,hs,hD⟩,hk⟩:=h;refine⟨Go.ChangeMaps.setBlock w mb (.map #[] clock),λty=> ?_,⟨.map [],⟨#[],clock,Go.ChangeMaps.heap_setBlock_same hb _,⟨by simp,Go.MapKept.stamped_empty _,by simp⟩,by simp,rfl⟩,λ_ _=>⟨rfl,rfl⟩,λx h=>by cases h⟩,?_⟩
 ·simp[Builtin.clear_,run_underlying k.ht,Go.MapKept.run_getObj_map hb,Go.MapKept.run_setObj_map _ hb,Result.andThen,Go.ChangeMaps.setBlock]
 ·exact World.mapTurned.grown ⟨es,clock,#[],clock,hb,rfl⟩
theorem zsp(m:Nat):AnyZI.SortsIn prog zd2 Fence.wide m:=
 ⟨λblk off cap ss W hH hblk Ks=>callsIn_wide.2 (AnyM.slices_Sort_int zeN blk off cap ss W hH hblk Ks),
  λp cap W=>callsIn_wide.2 (AnyM.slices_Sort_int_none zeN p cap W)⟩
theorem zzl(mb:Option Nat)(w:World):Calls prog 130 #[.map mb] w λe w'=>e= .returned (.func (.func 199) #[] #[.pointer (some ⟨w.heap.size,0,none⟩)])/\w'=w.alloc (.cells #[.map mb] 199):=
 (callsIn_wide (n:=5)).1 (AnyZI.keys_in zkS Fence.wide 5 trivial rfl mb w)
theorem zuR{α:Type}{k:MK α}{m:Int->Option α}(h:MF k w mb m)(K:List Int)(hK:K.Pairwise (·<·))(hm:∀z,z∈K↔Rg z/\(m z).isSome=true):Calls prog 123 #[.func (.func 199) #[] #[.pointer (some ⟨w.heap.size,0,none⟩)]] (w.alloc (.cells #[.map (some mb)] 199)) λe w'=>∃v,e= .returned v/\OwnD w' w.heap.size v K.length K/\Bw w w':=by
 obtain⟨D,Hc,hk,hr⟩:=h;have Ho:=Hc.lt;have Ks:=Hc.size_le
 have vo:K.Perm (intKeys D):=CollectedI.perm (left:=λ_=>false) ⟨zg4 hK,λx=>by
  rw[hm]
  exact⟨λq=>⟨by rw[(hk x q.1).2];exact q.2,rfl⟩,λq=>⟨hr x q.1,by rw[<-(hk x (hr x q.1)).2];exact q.1⟩⟩⟩ Hc zdV underlying81 (λ_=>rfl)
 have yz:SeqGives Fence.wide 2 prog 199 #[.pointer (some ⟨w.heap.size,0,none⟩)] encZ (λss=>ss.Perm (intKeys D)) (Maps.size D) (w.alloc (.cells #[.map (some mb)] 199)):=
  AnyZI.keys_gives (ρ:=zff) { zkS with } Fence.wide _ trivial rfl om w.heap.size mb 100000 D _ (by simp) (by simp) (by
   obtain⟨es,clock,hb,Ft,hs,hD⟩:=Hc
   exact⟨es,clock,(Below.heap_alloc _ _ mb Ho).trans hb,Ft,hs,hD⟩)
 have cS:=AnyZI.sorted_in zey Fence.wide 5 trivial trivial trivial trivial rfl om (zsp _) (Go.Proofs.enters_of func74 oM rfl) 199 #[.pointer (some ⟨w.heap.size,0,none⟩)] trivial (Go.Proofs.enters_of func199 oM rfl) _ (Maps.size D) (by unfold maxLen;omega) om _ yz;refine ((callsIn_wide (n:=5)).1 cS).mono ?_;rintro e w' ⟨v,ss,rfl,hS,He,_,hb⟩;have hp:ss.Perm K:=hS.trans vo.symm;have e1:=zqE hp hK;have e2:=hp.length_eq;rw[e1,e2]at He;exact⟨v,rfl,ownsRow_base_a He (by simp),((Below.refl _ w).alloc (Nat.le_refl _) _).trans (hb.mono (by simp))⟩
theorem zzm(mb:Option Nat)(w:World):Calls prog 201 #[.map mb] w λe w'=>e= .returned (.func (.func 255) #[] #[.pointer (some ⟨w.heap.size,0,none⟩)])/\w'=w.alloc (.cells #[.map mb] 197):=
 (callsIn_wide (n:=5)).1 (AnyZI.keys_in zkT Fence.wide 5 trivial rfl mb w)
theorem zuS{α:Type}{k:MK α}{m:Int->Option α}(h:MF k w mb m)(K:List Int)(hK:K.Pairwise (·<·))(hm:∀z,z∈K↔Rg z/\(m z).isSome=true):Calls prog 123 #[.func (.func 255) #[] #[.pointer (some ⟨w.heap.size,0,none⟩)]] (w.alloc (.cells #[.map (some mb)] 197)) λe w'=>∃v,e= .returned v/\OwnD w' w.heap.size v K.length K/\Bw w w':=by
 obtain⟨D,Hc,hk,hr⟩:=h;have Ho:=Hc.lt;have Ks:=Hc.size_le
 have vo:K.Perm (intKeys D):=CollectedI.perm (left:=λ_=>false) ⟨zg4 hK,λx=>by
  rw[hm]
  exact⟨λq=>⟨by rw[(hk x q.1).2];exact q.2,rfl⟩,λq=>⟨hr x q.1,by rw[<-(hk x (hr x q.1)).2];exact q.1⟩⟩⟩ Hc zdV underlying81 (λ_=>rfl)
 have yz:SeqGives Fence.wide 2 prog 255 #[.pointer (some ⟨w.heap.size,0,none⟩)] encZ (λss=>ss.Perm (intKeys D)) (Maps.size D) (w.alloc (.cells #[.map (some mb)] 197)):=
  AnyZI.keys_gives (ρ:=zfg) { zkT with } Fence.wide _ trivial rfl om w.heap.size mb 100000 D _ (by simp) (by simp) (by
   obtain⟨es,clock,hb,Ft,hs,hD⟩:=Hc
   exact⟨es,clock,(Below.heap_alloc _ _ mb Ho).trans hb,Ft,hs,hD⟩)
 have cS:=AnyZI.sorted_in zey Fence.wide 5 trivial trivial trivial trivial rfl om (zsp _) (Go.Proofs.enters_of func74 oM rfl) 255 #[.pointer (some ⟨w.heap.size,0,none⟩)] trivial (Go.Proofs.enters_of func255 oM rfl) _ (Maps.size D) (by unfold maxLen;omega) om _ yz;refine ((callsIn_wide (n:=5)).1 cS).mono ?_;rintro e w' ⟨v,ss,rfl,hS,He,_,hb⟩;have hp:ss.Perm K:=hS.trans vo.symm;have e1:=zqE hp hK;have e2:=hp.length_eq;rw[e1,e2]at He;exact⟨v,rfl,ownsRow_base_a He (by simp),((Below.refl _ w).alloc (Nat.le_refl _) _).trans (hb.mono (by simp))⟩
theorem zzn(mb:Option Nat)(w:World):Calls prog 124 #[.map mb] w λe w'=>e= .returned (.func (.func 190) #[] #[.pointer (some ⟨w.heap.size,0,none⟩)])/\w'=w.alloc (.cells #[.map mb] 204):=
 (callsIn_wide (n:=5)).1 (AnyZI.keys_in zkU Fence.wide 5 trivial rfl mb w)
theorem zuT{α:Type}{k:MK α}{m:Int->Option α}(h:MF k w mb m)(K:List Int)(hK:K.Pairwise (·<·))(hm:∀z,z∈K↔Rg z/\(m z).isSome=true):Calls prog 123 #[.func (.func 190) #[] #[.pointer (some ⟨w.heap.size,0,none⟩)]] (w.alloc (.cells #[.map (some mb)] 204)) λe w'=>∃v,e= .returned v/\OwnD w' w.heap.size v K.length K/\Bw w w':=by
 obtain⟨D,Hc,hk,hr⟩:=h;have Ho:=Hc.lt;have Ks:=Hc.size_le
 have vo:K.Perm (intKeys D):=CollectedI.perm (left:=λ_=>false) ⟨zg4 hK,λx=>by
  rw[hm]
  exact⟨λq=>⟨by rw[(hk x q.1).2];exact q.2,rfl⟩,λq=>⟨hr x q.1,by rw[<-(hk x (hr x q.1)).2];exact q.1⟩⟩⟩ Hc zdV underlying81 (λ_=>rfl)
 have yz:SeqGives Fence.wide 2 prog 190 #[.pointer (some ⟨w.heap.size,0,none⟩)] encZ (λss=>ss.Perm (intKeys D)) (Maps.size D) (w.alloc (.cells #[.map (some mb)] 204)):=
  AnyZI.keys_gives (ρ:=zfh) { zkU with } Fence.wide _ trivial rfl om w.heap.size mb 100000 D _ (by simp) (by simp) (by
   obtain⟨es,clock,hb,Ft,hs,hD⟩:=Hc
   exact⟨es,clock,(Below.heap_alloc _ _ mb Ho).trans hb,Ft,hs,hD⟩)
 have cS:=AnyZI.sorted_in zey Fence.wide 5 trivial trivial trivial trivial rfl om (zsp _) (Go.Proofs.enters_of func74 oM rfl) 190 #[.pointer (some ⟨w.heap.size,0,none⟩)] trivial (Go.Proofs.enters_of func190 oM rfl) _ (Maps.size D) (by unfold maxLen;omega) om _ yz;refine ((callsIn_wide (n:=5)).1 cS).mono ?_;rintro e w' ⟨v,ss,rfl,hS,He,_,hb⟩;have hp:ss.Perm K:=hS.trans vo.symm;have e1:=zqE hp hK;have e2:=hp.length_eq;rw[e1,e2]at He;exact⟨v,rfl,ownsRow_base_a He (by simp),((Below.refl _ w).alloc (Nat.le_refl _) _).trans (hb.mono (by simp))⟩
structure Wp where
 g:Nat
 gf:Nat
 gn:Nat
 gs:Nat
 gm:Nat
 Ff:Nat->Prop
 T:FT
 N:Int->Option BD
 S:Int->Option RD
 M:Int->Option Unit
 st:Nat
structure LW (w:World) (p:Wp):Prop where
 blk:Blk w p.g 201 #[.pointer (some ⟨p.gf,0,none⟩),.map (some p.gn),.map (some p.gs),.map (some p.gm),.int .i64 p.st]
 fo:LFB w p.gf p.Ff p.T
 nod:MF bK w p.gn p.N
 sts:MF sK w p.gs p.S
 mrk:MF xK w p.gm p.M
 d1:p.g≠p.gn
 d2:p.g≠p.gs
 d3:p.g≠p.gm
 d4:p.gn≠p.gs
 d5:p.gn≠p.gm
 d6:p.gs≠p.gm
 f1:¬p.Ff p.g
 f2:¬p.Ff p.gn
 f3:¬p.Ff p.gs
 f4:¬p.Ff p.gm
def zba(p:Wp)(b:Nat):Prop:=b=p.g∨b=p.gn∨b=p.gs∨b=p.gm∨p.Ff b
def ChL(w w':World)(p q:Wp):Prop:=LW w' q/\Fr w w' (zba p)/\∀b,zba q b->zba p b∨w.heap.size<=b
section
variable {w w' w1 w2:World} {p q r:Wp}
theorem LW.inb(h:LW w p):∀b,zba p b->b<w.heap.size:=by
 rintro b (rfl | rfl | rfl | rfl | e)
 ·exact h.blk.lt
 ·exact h.nod.lt
 ·exact h.sts.lt
 ·exact h.mrk.lt
 ·exact h.fo.inb b e
theorem LW.same(h:LW w p)(he:∀b,zba p b->w'.heap[b]? =w.heap[b]?):LW w' p:=
 ⟨h.blk.same (he _ (.inl rfl)),h.fo.keep_ (λb hb=>he b (.inr (.inr (.inr (.inr hb))))),h.nod.same (he _ (.inr (.inl rfl))),h.sts.same (he _ (.inr (.inr (.inl rfl)))),h.mrk.same (he _ (.inr (.inr (.inr (.inl rfl))))),h.d1,h.d2,h.d3,h.d4,h.d5,h.d6,h.f1,h.f2,h.f3,h.f4⟩
theorem LW.keep(h:LW w p)(hb:Bw w w'):LW w' p:=h.same (λb hf=>hb.block b (h.inb b hf))
theorem ChL.still(h:LW w p)(hb:Bw w w'):ChL w w' p p:=⟨h.keep hb,⟨hb.os,hb.tape,hb.output,hb.size,λb hl _=>hb.block b hl⟩,λ_ k=>Or.inl k⟩
theorem ChL.behind(h:ChL w w1 p q)(hb:Bw w1 w2):ChL w w2 p q:=⟨h.1.keep hb,Fr.behind h.2.1 hb,h.2.2⟩
theorem ChL.join(h:ChL w w1 p q)(k:ChL w1 w2 q r):ChL w w2 p r:=by
 obtain⟨h1,h2,h3⟩:=h;obtain⟨k1,k2,k3⟩:=k;refine⟨k1,Fr.two h2 k2 h3,λb hb=> ?_⟩;rcases k3 b hb with d | d
 ·exact h3 b d
 ·exact .inr (Nat.le_trans h2.2.2.2.1 d)
theorem LW.rest(h:LW w p){o:Nat}(hg:w.grownBy w' (some o)){b:Nat}(hb:zba p b)(Hd:b≠o):w'.heap[b]? =w.heap[b]? :=hg.block b (h.inb b hb) (λe=>Hd (by injection e))
theorem LW.setN(h:LW w p){N':Int->Option BD}(hm:MF bK w' p.gn N')(hg:w.grownBy w' (some p.gn)):ChL w w' p { p with N:=N' }:=by
 refine⟨⟨h.blk.same (h.rest hg (.inl rfl) h.d1),h.fo.keep_ (λb hb=>h.rest hg (.inr (.inr (.inr (.inr hb)))) (λe=>h.f2 (e ▸ hb))),hm,h.sts.same (h.rest hg (.inr (.inr (.inl rfl))) (λe=>h.d4 e.symm)),h.mrk.same (h.rest hg (.inr (.inr (.inr (.inl rfl)))) (λe=>h.d5 e.symm)),h.d1,h.d2,h.d3,h.d4,h.d5,h.d6,h.f1,h.f2,h.f3,h.f4⟩,⟨hg.os,hg.tape,hg.output,hg.size,λb hl hn=>hg.block b hl (λe=>hn (by injection e with e;exact .inr (.inl e)))⟩,λb hb=>Or.inl hb⟩
theorem LW.setS(h:LW w p){S':Int->Option RD}(hm:MF sK w' p.gs S')(hg:w.grownBy w' (some p.gs)):ChL w w' p { p with S:=S' }:=by
 refine⟨⟨h.blk.same (h.rest hg (.inl rfl) h.d2),h.fo.keep_ (λb hb=>h.rest hg (.inr (.inr (.inr (.inr hb)))) (λe=>h.f3 (e ▸ hb))),h.nod.same (h.rest hg (.inr (.inl rfl)) h.d4),hm,h.mrk.same (h.rest hg (.inr (.inr (.inr (.inl rfl)))) (λe=>h.d6 e.symm)),h.d1,h.d2,h.d3,h.d4,h.d5,h.d6,h.f1,h.f2,h.f3,h.f4⟩,⟨hg.os,hg.tape,hg.output,hg.size,λb hl hn=>hg.block b hl (λe=>hn (by injection e with e;exact .inr (.inr (.inl e))))⟩,λb hb=>Or.inl hb⟩
theorem LW.setM(h:LW w p){M':Int->Option Unit}(hm:MF xK w' p.gm M')(hg:w.grownBy w' (some p.gm)):ChL w w' p { p with M:=M' }:=by
 refine⟨⟨h.blk.same (h.rest hg (.inl rfl) h.d3),h.fo.keep_ (λb hb=>h.rest hg (.inr (.inr (.inr (.inr hb)))) (λe=>h.f4 (e ▸ hb))),h.nod.same (h.rest hg (.inr (.inl rfl)) h.d5),h.sts.same (h.rest hg (.inr (.inr (.inl rfl))) h.d6),hm,h.d1,h.d2,h.d3,h.d4,h.d5,h.d6,h.f1,h.f2,h.f3,h.f4⟩,⟨hg.os,hg.tape,hg.output,hg.size,λb hl hn=>hg.block b hl (λe=>hn (by injection e with e;exact .inr (.inr (.inr (.inl e)))))⟩,λb hb=>Or.inl hb⟩
theorem LW.setF(h:LW w p){T':FT}(hc:ChF LFB w w' p.gf p.Ff T'):∃Kn,ChL w w' p { p with Ff:=Kn,T:=T' }:=by
 obtain⟨F',k1,k2,k3⟩:=hc;have hin:=h.inb;have hs:∀b,b=p.g∨b=p.gn∨b=p.gs∨b=p.gm->w'.heap[b]? =w.heap[b]?/\¬F' b:=λb hb=>by
  have hn:¬p.Ff b:=by
   rcases hb with rfl | rfl | rfl | rfl
   ·exact h.f1
   ·exact h.f2
   ·exact h.f3
   ·exact h.f4
  have hl:b<w.heap.size:=hin b (by
   rcases hb with e | e | e | e
   ·exact .inl e
   ·exact .inr (.inl e)
   ·exact .inr (.inr (.inl e))
   ·exact .inr (.inr (.inr (.inl e))))
  refine⟨k2.2.2.2.2 b hl hn,λc=> ?_⟩;rcases k3 b c with d | d
  ·exact hn d
  ·omega
 refine⟨F',⟨h.blk.same (hs _ (.inl rfl)).1,k1,h.nod.same (hs _ (.inr (.inl rfl))).1,h.sts.same (hs _ (.inr (.inr (.inl rfl)))).1,h.mrk.same (hs _ (.inr (.inr (.inr rfl)))).1,h.d1,h.d2,h.d3,h.d4,h.d5,h.d6,(hs _ (.inl rfl)).2,(hs _ (.inr (.inl rfl))).2,(hs _ (.inr (.inr (.inl rfl)))).2,(hs _ (.inr (.inr (.inr rfl)))).2⟩,Fr.of k2 (λb hb=>Or.inr (.inr (.inr (.inr hb)))),?_⟩;rintro b (e | e | e | e | e)
 ·exact .inl (.inl e)
 ·exact .inl (.inr (.inl e))
 ·exact .inl (.inr (.inr (.inl e)))
 ·exact .inl (.inr (.inr (.inr (.inl e))))
 ·exact (k3 b e).imp_left (λc=>Or.inr (.inr (.inr (.inr c))))
theorem LW.setT(h:LW w p)(s:Nat){z:Int}(hz:z=(s:Int)):ChL w (w.setCell ⟨p.g,4,none⟩ (.int .i64 z)) p { p with st:=s }:=by
 subst hz;exact⟨⟨h.blk.set_ 4 _,h.fo.keep_ (λb hb=>zj5 (λe=>h.f1 (e ▸ hb))),h.nod.same (zj5 (λe=>h.d1 e.symm)),h.sts.same (zj5 (λe=>h.d2 e.symm)),h.mrk.same (zj5 (λe=>h.d3 e.symm)),h.d1,h.d2,h.d3,h.d4,h.d5,h.d6,h.f1,h.f2,h.f3,h.f4⟩,⟨rfl,rfl,rfl,by simp[World.setCell],λb _ hn=>zj5 (λe=>hn (.inl e))⟩,λb hb=>Or.inl hb⟩
theorem LW.cells(h:LW w p):w.cell? ⟨p.g,0,none⟩=some (.pointer (some ⟨p.gf,0,none⟩))/\w.cell? ⟨p.g,1,none⟩=some (.map (some p.gn))/\w.cell? ⟨p.g,2,none⟩=some (.map (some p.gs))/\w.cell? ⟨p.g,3,none⟩=some (.map (some p.gm))/\w.cell? ⟨p.g,4,none⟩=some (.int .i64 p.st)/\p.g<w.heap.size:=
 ⟨h.blk.cell 0,h.blk.cell 1,h.blk.cell 2,h.blk.cell 3,h.blk.cell 4,h.blk.lt⟩
end
structure BX (X:List Value):Prop where
 len:X.length=13
 sizea:(prog.info? 215).map (·.size)=some X.toArray.size
 onea:X.toArray.all (·.oneCell')=true
structure RX (X:List Value):Prop where
 len:X.length=14
 sizea:(prog.info? 299).map (·.size)=some X.toArray.size
 onea:X.toArray.all (·.oneCell')=true
theorem zxP(p:BD):∀u∈cBd p,u.oneCell'=true:=λu hu=>by
 rw[zvM]at hu;rcases mem_append.1 hu with h | h
 ·exact zna _ u h
 ·rw[mem_singleton.1 h];rfl
theorem zxQ(p:RD):∀u∈cSd p,u.oneCell'=true:=λu hu=>by
 rw[zvN]at hu;rcases mem_append.1 hu with h | h
 ·exact zna _ u h
 ·rcases mem_cons.1 h with h | h
  ·rw[h];rfl
  ·rw[mem_singleton.1 h];rfl
theorem zvO(p:BD):BX (cBd p):=⟨rfl,oM,all_oneCell_toArray (zxP p)⟩
theorem zvP(p:RD):RX (cSd p):=⟨rfl,oM,all_oneCell_toArray (zxQ p)⟩
def zcg(T:FT)(x:Int):Int:=(zak T x).getD (-1)
section
variable {w:World} {p:Wp} {x:Int}
theorem zkV(h:LW w p)(hx:Rg x):Calls prog 119 #[.pointer (some ⟨p.g,0,none⟩),.int .i64 x] w λe w'=>e= .returned (.bool (p.N x).isSome)/\Bw w w':=by
 obtain⟨c0,c1,c2,c3,c4,hg⟩:=h.cells;have hl:(Instr.lookup 197 (.map (some p.gn)) (.int .i64 x) true).run prog w= .ok (.tuple #[.agg (cBd ((p.N x).getD zB)).toArray,.bool (p.N x).isSome]) w:=h.nod.look hx;have HX:=kA (zvO ((p.N x).getD zB));obtain⟨X,hX⟩:∃X,X=cBd ((p.N x).getD zB):=⟨_,rfl⟩;obtain⟨b,hb⟩:∃b,b=(p.N x).isSome:=⟨_,rfl⟩;obtain⟨g,hge⟩:∃g,g=p.g:=⟨_,rfl⟩;obtain⟨gn,Hd⟩:∃gn,gn=p.gn:=⟨_,rfl⟩;rw[<-hX]at hl HX;rw[<-hb]at hl ⊢;rw[<-Hd]at hl c1;rw[<-hge]at c1 hg ⊢;have HT:Hid ((w.alloc (.cells (cBd zB).toArray 215)).there w.heap.size 0 X.toArray.size):=kA (zae (Blk.new w _ _) (by rw[size_toArray,HX.len];exact Nat.le_refl 13));clear h hX hb hge Hd c0 c2 c3 c4;go_enter func119,ntmps119;go_wp2_with (refine wpList_store_mid rfl 215 (.tmp 5) (.tmp 14) rfl w.heap.size 0 X.toArray rfl rfl HT HX.sizea HX.onea ?_);refine fin (λW=>Bw w W) (zab _ (zaa _ _) (Nat.le_refl _)) ?_;rintro W dJ;have HB:=kA dJ;clear dJ;go_wp2;go_ret;exact⟨rfl,HB⟩
theorem zfW(h:LW w p)(hx:Rg x):Calls prog 191 #[.pointer (some ⟨p.g,0,none⟩),.int .i64 x] w λe w'=>e= .returned (.int .i64 (zcg p.T x))/\w=w':=by
 obtain⟨c0,c1,c2,c3,c4,hg⟩:=h.cells
 have HP:Hid (Calls prog 251 #[.pointer (some ⟨p.gf,0,none⟩),.int .i64 x] w λe w'=>e= .returned (.tuple #[.int .i64 (zjy (zak p.T x)),.bool (zak p.T x).isSome])/\w=w'):=kA (by
  obtain⟨gp,gc,bl,cp,h1,_⟩:=h.fo
  exact zes h1 hx)
 have hM:zcg p.T x=(zak p.T x).getD (-1):=rfl;obtain⟨o,ho⟩:∃o,o=zak p.T x:=⟨_,rfl⟩;obtain⟨g,hge⟩:∃g,g=p.g:=⟨_,rfl⟩;obtain⟨gf,cd⟩:∃gf,gf=p.gf:=⟨_,rfl⟩;rw[<-ho]at HP hM;rw[<-cd]at HP c0;rw[<-hge]at c0 hg ⊢;rw[hM];clear h ho hge cd hM c1 c2 c3 c4 hx;go_enter func191,ntmps191;go_wp2_with fail;refine HP.mono ?_;rintro e w1 ⟨rfl,rfl⟩
 cases o with
 | none=>
  go_wp2;go_ret;exact⟨rfl,rfl⟩
 | some y=>
  go_wp2;go_ret;exact⟨rfl,rfl⟩
theorem zmr(h:LW w p)(K:List Int)(hK:K.Pairwise (·<·))(hm:∀z,z∈K↔Rg z/\(p.N z).isSome=true):Calls prog 132 #[.pointer (some ⟨p.g,0,none⟩)] w λe w'=>∃v,e= .returned v/\OwnD w' w.heap.size v K.length K/\Bw w w':=by
 obtain⟨c0,c1,c2,c3,c4,hg⟩:=h.cells;have Xi:=kA (zzm (some p.gn) w);have Dl:=kA (zuS h.nod K hK hm);clear h hK hm;go_enter func132,ntmps132;go_wp2_with fail;refine Xi.mono ?_;rintro e w0 ⟨rfl,rfl⟩;go_wp2_with fail;refine Dl.mono ?_;rintro e w1 ⟨v,rfl,He,Hv⟩;have HE:=kA (And.intro He Hv);clear He Hv Xi Dl;go_wp2;go_ret;exact⟨v,rfl,HE⟩
end
def mkS(S:Int->Option RD)(xs:List Int)(x:Int):Option RD:=if x∈xs then none else S x
def mkM(M:Int->Option Unit)(xs:List Int)(x:Int):Option Unit:=if x∈xs then some () else M x
theorem znZ{S:Int->Option RD}(h:xs[j]? =some z):mkS S (xs.take (j+1))=upm (mkS S (xs.take j)) z none:=by
 funext y;unfold mkS upm;rw[take_add_one,h]
 by_cases c:y=z
 ·rw[if_pos c,if_pos (by rw[c];simp)]
 ·rw[if_neg c];show _=if y∈xs.take j then none else S y
  by_cases d:y∈xs.take j
  ·rw[if_pos d,if_pos (mem_append_left _ d)]
  ·rw[if_neg d,if_neg (λk=>(mem_append.1 k).elim d (λk=>c (by simpa using k)))]
theorem zuU{M:Int->Option Unit}(h:xs[j]? =some z):mkM M (xs.take (j+1))=upm (mkM M (xs.take j)) z (some ()):=by
 funext y;unfold mkM upm;rw[take_add_one,h]
 by_cases c:y=z
 ·rw[if_pos c,if_pos (by rw[c];simp)]
 ·rw[if_neg c];show _=if y∈xs.take j then some () else M y
  by_cases d:y∈xs.take j
  ·rw[if_pos d,if_pos (mem_append_left _ d)]
  ·rw[if_neg d,if_neg (λk=>(mem_append.1 k).elim d (λk=>c (by simpa using k)))]
def mkP(p:Wp)(xs:List Int):Wp:={ p with S:=mkS p.S xs,M:=mkM p.M xs }
theorem zxR(p:Wp):mkP p []=p:=by
 unfold mkP;have h1:mkS p.S []=p.S:=by funext x;unfold mkS;rw[if_neg (by simp)]
 have h2:mkM p.M []=p.M:=by funext x;unfold mkM;rw[if_neg (by simp)]
 rw[h1,h2]
theorem LW.mark1{wr:World}{p:Wp}(Hi:ChL w wr p (mkP p (xs.take j)))(hz:xs[j]? =some z)(hx:Rg z)(K:List Int)(hK:∀y,(p.M y).isSome=true->y∈K)(C9:K.length+xs.length<=100000):
  ∃w1 w2,(∀ty,(Builtin.delete_ #[198,81] ty #[.map (some p.gs),.int .i64 z]).run prog wr= .ok (.tuple #[]) w1)/\w1.cell? ⟨p.g,3,none⟩=some (.map (some p.gm))/\p.g<w1.heap.size/\(Instr.mapUpdate 199 (.map (some p.gm)) (.int .i64 z) (.agg #[])).run prog w1= .ok () w2/\ChL w w2 p (mkP p (xs.take (j+1))):=by
 obtain⟨w1,r1,m1,g1⟩:=Hi.1.sts.del hx;have k1:=Hi.1.setS m1 g1
 obtain⟨w2,r2,m2,g2⟩:=k1.1.mrk.put hx () (K++xs) (λy hy=>by
  unfold upm at hy
  by_cases c:y=z
  ·rw[c];exact mem_append_right _ (mem_of_getElem? hz)
  ·rw[if_neg c]at hy;have dO:(mkM p.M (xs.take j) y).isSome=true:=hy;unfold mkM at dO
   by_cases d:y∈xs.take j
   ·exact mem_append_right _ (mem_of_mem_take d)
   ·rw[if_neg d]at dO
    exact mem_append_left _ (hK y dO)) (by rw[length_append];exact C9)
 have k2:=k1.1.setM m2 g2;obtain⟨_,_,_,c3,_,hg⟩:=k1.1.cells;refine⟨w1,w2,r1,c3,hg,r2,?_⟩;have:=(Hi.join k1).join k2;unfold mkP;rw[znZ hz,zuU hz];exact this
theorem zfG{p:Wp}(h:LW w p){a:Option Addr}{n cap:Nat}{xs:List Int}(hn:n<=20000)(hr:Row w a n xs)(ha:Aw (zba p) a n)(hx:Rgs xs)(K:List Int)(hK:∀y,(p.M y).isSome=true->y∈K)(C9:K.length<=70000):
  Calls prog 120 #[.pointer (some ⟨p.g,0,none⟩),.slice a n cap] w λe w'=>e= .returned (.tuple #[])/\ChL w w' p (mkP p xs):=by
 have Hk:Hid (ChL w w p (mkP p (xs.take 0))):=kA (by rw[take_zero,zxR];exact ChL.still h (Below.refl _ _));have Kw:=kA hr.1;have DL:Hid (∀ (u:World) (j:Nat),ChL w u p (mkP p (xs.take j))->Row u a n xs/\u.cell? ⟨p.g,2,none⟩=some (.map (some p.gs))/\p.g<u.heap.size):=kA (λu j q=>⟨zbI hr ha q.2.1,q.1.cells.2.2.1,q.1.cells.2.2.2.2.2⟩);have HM:Hid (∀ (u:World) (j:Nat) (z:Int),xs[j]? =some z->ChL w u p (mkP p (xs.take j))->∃w1 w2,(∀ty,(Builtin.delete_ #[198,81] ty #[.map (some p.gs),.int .i64 z]).run prog u= .ok (.tuple #[]) w1)/\w1.cell? ⟨p.g,3,none⟩=some (.map (some p.gm))/\p.g<w1.heap.size/\(Instr.mapUpdate 199 (.map (some p.gm)) (.int .i64 z) (.agg #[])).run prog w1= .ok () w2/\ChL w w2 p (mkP p (xs.take (j+1)))):=kA (λu j z hz q=>LW.mark1 q hz (hx z (mem_of_getElem? hz)) K hK (by rw[hr.1];omega));have Hy:=hr.2.1;obtain⟨g,hge⟩:∃g,g=p.g:=⟨_,rfl⟩;rw[<-hge]at DL HM ⊢;clear h hr ha hx hK C9 hge;go_enter func120,ntmps120;go_wp2
 go_loopw [5,8] (λ_ i wr=>∃j:Nat,j<=n/\i= .int .i64 j/\ChL w wr p (mkP p (xs.take j))) (λ_ i _=>n - (ivl i).toNat)
 case atStart=>exact⟨0,om,rfl,Hk⟩
 case round=>
  clear Hk;obtain⟨j,hj,rfl,Hi⟩:=hrel;obtain⟨Kf,c2,hg⟩:=DL.out wr j Hi;have H9:=kA Hi;clear Hi
  by_cases hlt:j<n
  ·obtain⟨b,off,z,rfl,hz,cz⟩:=zci Kf hlt;have Ho:=World.block_lt_of_cell? _ _ cz;obtain⟨w1,w2,r1,c13,KF,r2,Dw⟩:=HM.out wr j z hz H9;have KT:=kA Dw;have j0:(0:Int)<=(j:Int):=om;have j1:(j:Int)<(n:Int):=om;clear Kf hz Dw H9;go_wp2_with (at_builtin;refine za9 rfl (.tmp 15) (.tmp 16) 198 81 rfl _ _ rfl rfl (r1 _) ?_);go_roundw
   case rel=>exact⟨j+1,om,by go_num,KT⟩
   case measure=>simp[ivl] <;> omega
  ·obtain rfl:j=n:=om;have e0:xs.take j=xs:=take_of_length_le (by rw[Kw.out];exact Nat.le_refl _);rw[e0]at H9;have j1:¬(j:Int)<(j:Int):=om;clear e0 Kf;go_wp2;go_end0;exact⟨rfl,H9⟩
end Go.Proofs.YtlibdcmcbinfnaaGreat
