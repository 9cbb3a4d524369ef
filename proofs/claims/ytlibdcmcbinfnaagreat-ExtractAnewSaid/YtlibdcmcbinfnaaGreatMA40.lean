/- Lemmas. -/
import Derived.Test.YtlibdcmcbinfnaaGreatMA39
import Derived.Lib.AppendZerosOnto
set_option maxHeartbeats 100000000
set_option maxRecDepth 1000000
namespace Go.Proofs.YtlibdcmcbinfnaaGreat
open _root_.Go.Proofs.Tryz List Nat
open Go.RowKit
structure St13 (EB:World->Nat->(Nat->Prop)->XS->Prop) (XB:World->Nat->(Nat->Prop)->Sc->Prop) (w0 W:World) (g gs:Nat) (F Fs:Nat->Prop) (E:XS) (X:Sc) (m k:Nat):Prop where
 du:Du EB XB w0 W g gs F Fs E X
 sx:SX3 X
 ek:EOk X E
 bs:BSc X m
 eb:EBd E k
 lo:∀p∈E.S,p.2<12
 rm:X.S.room=12
variable{E:XS}{a:Option Addr}{n cap:Nat}{R:List Rc}{zs:List Int}{w w0:World}
section
variable {EB:World->Nat->(Nat->Prop)->XS->Prop} {XB:World->Nat->(Nat->Prop)->Sc->Prop} {w0 W W':World} {g gs:Nat} {F Fs:Nat->Prop} {E:XS} {X:Sc} {m k:Nat}
theorem St13.keep(kE:KB EB)(kX:KB XB)(h:St13 EB XB w0 W g gs F Fs E X m k)(hb:Bw W W'):St13 EB XB w0 W' g gs F Fs E X m k:=⟨h.du.keep kE kX hb,h.sx,h.ek,h.bs,h.eb,h.lo,h.rm⟩
theorem St13.mono(h:St13 EB XB w0 W g gs F Fs E X m k){m' k':Nat}(h1:m<=m')(h2:k<=k'):St13 EB XB w0 W g gs F Fs E X m' k':=⟨h.du,h.sx,h.ek,h.bs.mono h1,h.eb.mono h2,h.lo,h.rm⟩
theorem St13.act(hX:XC XB)(kE:KB EB)(h:St13 EB XB w0 W g gs F Fs E X m k)(hm:m<=240){x:A11}(Hp:ok11 w0 x)(hn:x.n<=40):
  Calls prog 18 #[.pointer (some ⟨gs,0,none⟩),.agg (c11 x).toArray] W λe w'=>(∃v,e= .returned v)/\∃kZ,St13 EB XB w0 w' g gs F kZ E (doX X x) (m+2) k:=by
 refine (zuC hX h.du.xb h.sx.wx (h.bs.mono om) x (Hp.keep h.du.be) (zAk Hp.2.2.2.2.2.2 h.du.f1) om).mono ?_;rintro e w' ⟨rfl,hc⟩;obtain⟨kZ,k1,-,-⟩:=h.du.sc kE hc;exact⟨⟨_,rfl⟩,kZ,k1,h.sx.does x,h.ek.does x,h.bs.does h.sx.wx x,h.eb,h.lo,(zrM X x).trans h.rm⟩
theorem St13.sync(hE:EC EB XB)(h:St13 EB XB w0 W g gs F Fs E X m k)(hm:m<=240)(hk:k<=90):
  Calls prog 13 #[.pointer (some ⟨g,0,none⟩),.pointer (some ⟨gs,0,none⟩)] W λe w'=>∃a n cap zs er E' F' kZ,e= .returned (.tuple #[.slice a n cap,.int .i64 er])/\n=zs.length/\Row w' a n zs/\Synced X E zs er E'/\St13 EB XB w0 w' g gs F' kZ E' (zdG X) (m+2) (k+1)/\(∀b,F' b->F b∨W.heap.size<=b)/\(∀b,kZ b->Fs b∨W.heap.size<=b)/\Fr W w' (λb=>F b∨Fs b)/\(n=0∨∀ad,a=some ad->W.heap.size<=ad.block):=by
 refine (zsi hE h.du h.sx h.ek (h.bs.mono om) (h.eb.mono om) (λp hp=>by have:=h.lo p hp;omega) (by have:=h.rm;omega)).mono ?_;rintro e w' ⟨a,n,cap,zs,er,E',F',kZ,rfl,hn,row,hs,k1,k2,k3,k4,k5⟩;exact⟨a,n,cap,zs,er,E',F',kZ,rfl,hn,row,hs,⟨k1,h.sx.ne,hs.next h.sx h.ek,h.bs.ne,hs.bd h.sx h.ek (h.bs.mono om) h.eb,hs.below (m:=12) h.sx h.ek h.rm h.lo,h.rm⟩,k2,k3,k4,k5⟩
theorem St13.recs(hE:EC EB XB){Y:Sc}{E:XS}(CL:EB W g F E)(M3:EOk Y E):Calls prog 20 #[.pointer (some ⟨g,0,none⟩)] W λe w'=>∃a cap,e= .returned (.slice a E.R.length cap)/\zbz w' a E.R.length E.R/\(∀ad,a=some ad->W.heap.size<=ad.block)/\Bw W w':=by
 have hl:=M3.rlen;refine (hE.records W g F E CL om).mono ?_;rintro e w' ⟨v,rfl,ho,hb⟩;obtain⟨a,cap,rfl,_,_,row⟩:=ho.row zaz;refine⟨a,cap,rfl,row,λad e=> ?_,hb⟩;subst e;rcases ho.2 with ⟨e2,_⟩ | ⟨g2,cp,cur,e2,Kd,_⟩
 ·injection e2 with e3 _ _;cases e3
 ·injection e2 with e3 _ _;injection e3 with e3;rw[e3];exact Kd
theorem zAz(row:zbz W a n R)(hn:n<=256):Calls prog 23 #[.slice a n cap] W λe w'=>∃a' cap',e= .returned (.slice a' n cap')/\zbz w' a' n R/\(∀ad,a'=some ad->W.heap.size<=ad.block)/\Bw W w':=by
 refine (zxm a n cap R W row om).mono ?_;rintro e w' ⟨v,rfl,ho,hb⟩;obtain⟨a',cap',rfl,_,_,r⟩:=ho.row zaz;have e1:R.length=n:=row.1;rw[e1]at r ⊢;refine⟨a',cap',rfl,r,λad e=> ?_,hb⟩;subst e;rcases ho.2 with ⟨e2,_⟩ | ⟨g2,cp,cur,e2,Kd,_⟩
 ·injection e2 with e3 _ _;cases e3
 ·injection e2 with e3 _ _;injection e3 with e3;rw[e3];exact Kd
theorem zuN{G:Nat->Prop}(row:zbz W a n R)(h:Fr W W' G)(hG:∀ad,a=some ad->¬G ad.block):zbz W' a n R:=by
 refine⟨row.1,row.2.1,row.2.2.imp id ?_⟩;rintro⟨b,off,rfl,hb,hr⟩;exact⟨b,off,rfl,Nat.lt_of_lt_of_le hb h.2.2.2.1,λi x hx=>zaF (hr i x hx) (h.2.2.2.2 b hb (hG _ rfl))⟩
theorem zxN{X:Sc}{E1 E3:XS}{NP:List Int}{f h:Int}(hS:SX3 X)(hk:EOk X E)(h1:Synced X E zs f E1)(h3:Synced (zdG (zdG X)) E1 NP h E3):h=f/\E3.R=E1.R/\NP.length=0:=by
 have k1:=h1.next hS hk;have a1:=(h1.anew hS hk).ne.ne;have a3:=h3.anew hS.ne.ne k1.ne;obtain⟨e1,e2⟩:=a3.one hS.ne.ne.wx a1;refine⟨e1,e2,?_⟩
 by_cases c:h=0
 ·have hf:f=0:=om;rcases h1 with ⟨a,_,b,d⟩ | ⟨_,a,_,b,d⟩ | ⟨a,_,_,_,R',d,d2⟩
  ·exact absurd (b.symm.trans hf) a
  ·exact absurd (b.symm.trans hf) a
  ·have hb:Behind (zdG (zdG X)) E1.since:=by rw[d2];exact hS.marks
   have ht:zah E1.D=[]:=by rw[d2];exact zhq a
   rw[h3.still hS.ne.ne k1.ne hb ht];rfl
 ·rw[(AnewX.zero h3 c).1];rfl
theorem zo7(hX:XC XB)(hE:EC EB XB)(a:Option Addr)(len cap:Nat)(xs:List S13)(w:World)(row:ARow13 w a len xs):
  Calls prog 4 #[.slice a len cap] w λe w'=>e= .returned (.bool true)/\Bw w w':=by
 have Hy:=row.2.1;have hJ:=kA row;have dF:=kA hX;have Ca:=kA hE;have Zn:=kA (zo6 a len cap xs w row);have yq:=kA (zmo hX hE);clear row hX hE;go_enter func4,ntmps4;go_wp2_with fail;refine Zn.mono ?_;rintro e w1 ⟨ok,rfl,Hp,rfl⟩;have dN:=kA Hp;clear Hp Zn;go_wp2_with fail;refine (dF.new w 12 om).mono ?_;rintro e w1 ⟨gs,Fs,rfl,sb,hF,b1⟩
 cases ok with
 | false=>
  have HB:=kA b1;clear sb hF b1;go_wp2_with fail;refine (yq _).mono ?_;rintro e w2 ⟨rfl,b2⟩;replace HB:=kA (zad HB b2);clear b2;go_wp2;go_ret;exact⟨rfl,HB⟩
 | true=>
  have Qk:=kA sb;have HB:=kA (And.intro hF b1);clear sb hF b1;obtain⟨M0,JD⟩:=dN.out rfl;have JE:=kA JD;clear JD dN;go_wp2_with fail;refine (Ca.new _).mono ?_;rintro e w2 ⟨g,F,rfl,eb,Rb,b2⟩;have Zo:Hid (St13 EB XB w w2 g gs F Fs XS0 (Sc0 12) 0 0):=kA ⟨⟨eb,dF.kb.keep Qk b2,λb c d=>by have:=Rb b c;have:=dF.kb.inb _ _ _ _ Qk b d;omega,zad HB.2 b2,λb c=>Nat.le_trans HB.2.size (Rb b c),HB.1⟩,SX3.zero om,.inl ⟨0,rfl⟩,BSc.zero om,⟨Nat.le_refl _,Nat.le_refl _⟩,λp hp=>(by cases hp),rfl⟩;clear eb Rb b2 Qk HB;go_wp2
  go_loopw [7] (λv7 wr=>∃ (j:Nat) (F Fs:Nat->Prop) (E:XS) (X:Sc),j<=len/\v7= .int .i64 j/\St13 EB XB w wr g gs F Fs E X (4*j) j) (λv7 _=>len - (intOf v7).toNat)
  case atStart=>exact⟨0,F,Fs,XS0,Sc0 12,om,rfl,Zo⟩
  case round=>
   clear Zo F Fs;obtain⟨j,F,Fs,E,X,hj,rfl,hs⟩:=hrel;have HS:=kA hs;clear hs
   by_cases hlt:j<len
   ·have j0:(0:Int)<=(j:Int):=om;have j1:(j:Int)<(len:Int):=om;obtain⟨b,off,x,rfl,hx,Zp,Hp⟩:=hJ.at_ hlt;have YV:x.1.n<=40:=JE.out x (mem_of_getElem? hx);have Ha:=kA (zug x.1);have dJ:=World.block_lt_of_cell? _ _ (Zp 0 _ rfl)
    have VO:Hid (∀u,Bw w u->u.rangeAt b (off+j*30) (c11 x.1)/\u.cell? ⟨b,off+j*30+28,none⟩=some (.bool x.2.1)/\b<u.heap.size):=kA (λu q=>by
     have hr:=zaF Zp (q.block b dJ)
     refine⟨λi v hv=>hr i v (by unfold c13;rw[getElem?_append_left (List.getElem?_eq_some_iff.1 hv).1];exact hv),hr 28 _ rfl,Nat.lt_of_lt_of_le dJ q.size⟩)
    have yr:Hid (∀W F Fs E X m k,m<=240->St13 EB XB w W g gs F Fs E X m k->Calls prog 18 #[.pointer (some ⟨gs,0,none⟩),.agg (c11 x.1).toArray] W λe w'=>(∃v,e= .returned v)/\∃kZ X',St13 EB XB w w' g gs F kZ E X' (m+2) k):=kA (λW F Fs E X m k hm h=>(h.act dF Ca.kb hm Hp YV).mono (λe w' ⟨q1,kZ,q2⟩=>⟨q1,kZ,_,q2⟩));obtain⟨sy,BF⟩:∃sy,sy=x.2.1:=⟨_,rfl⟩;rw[<-BF]at VO;obtain⟨Xc,BG⟩:∃Xc,Xc=c11 x.1:=⟨_,rfl⟩;rw[<-BG]at VO Ha yr;clear hx Zp Hp YV dJ BF BG hJ JE;obtain⟨Cy,YW,Ho⟩:=VO.out _ HS.du.be
    cases sy with
    | true=>
     have Z9:=kA (HS.sync Ca om om);go_wp2_with fail;refine Z9.mono ?_;rintro e w3 ⟨a1,n1,c1,z1,f,E1,F1,DZ,rfl,-,-,-,s1,-,-,-,-⟩;have kW:=kA s1;clear s1 Z9 HS Cy YW Ho;obtain⟨Cy,YW,Ho⟩:=VO.out _ kW.du.be;have dM:=kA Cy;clear Cy
     go_wp2_with (first
      | refine wpList_load_mid rfl 55 (.tmp 52) rfl b (off+j*30) rfl Xc _ dM underlying55 rfl Ha ?_)
     refine (yr _ _ _ _ _ _ _ om kW).mono ?_;rintro e w4 ⟨⟨v,rfl⟩,yD,X2,s2⟩;have dC:=kA (s2.mono (m':=4*(j+1)) (k':=j+1) om om);clear s2 kW yr dM YW Ho;go_wp2;go_roundw
     case rel=>exact⟨j+1,F1,yD,E1,X2,om,by go_num,dC⟩
     case measure=>simp[intOf] <;> omega
    | false=>
     have dM:=kA Cy;clear Cy
     go_wp2_with (first
      | refine wpList_load_mid rfl 55 (.tmp 52) rfl b (off+j*30) rfl Xc _ dM underlying55 rfl Ha ?_)
     refine (yr _ _ _ _ _ _ _ om HS).mono ?_;rintro e w4 ⟨⟨v,rfl⟩,yD,X2,s2⟩;have dC:=kA (s2.mono (m':=4*(j+1)) (k':=j+1) om om);clear s2 HS yr dM YW Ho;go_wp2;go_roundw
     case rel=>exact⟨j+1,F,yD,E,X2,om,by go_num,dC⟩
     case measure=>simp[intOf] <;> omega
   ·obtain rfl:j=len:=om;have j2:¬(j:Int)<(j:Int):=om;have Z9:=kA (HS.sync Ca om om);go_wp2_with fail;refine Z9.mono ?_;rintro e w3 ⟨a1,n1,c1,z1,f,E1,F1,DZ,rfl,-,-,Yp,s1,-,-,-,-⟩;have yi:=kA Yp;have kW:=kA s1;clear Yp s1 Z9;go_wp2_with fail;refine (Ca.new _).mono ?_;rintro e w4 ⟨gy,Fy,rfl,eby,VP,b4⟩;have qo:=Ca.kb.inb _ _ _ _ kW.du.eb;have JF:=dF.kb.inb _ _ _ _ kW.du.xb;have dJ:=kW.du.be.size;have yt:Hid (St13 EB XB w w4 gy gs Fy DZ XS0 (zdG X) (4*j+2) (j+1)):=kA ⟨⟨eby,dF.kb.keep kW.du.xb b4,λb c d=>by have:=VP b c;have:=JF b d;omega,zad kW.du.be b4,λb c=>Nat.le_trans dJ (VP b c),kW.du.f1⟩,kW.sx,.inl ⟨0,rfl⟩,kW.bs,⟨zero_le _,zero_le _⟩,λp hp=>(by cases hp),kW.rm⟩;have Kk:Hid (EB w4 g F1 E1/\(∀b,F1 b->b<w4.heap.size)/\(∀b,F1 b->¬Fy b)/\(∀b,F1 b->¬DZ b)/\(∀b,F1 b->w.heap.size<=b)/\EOk (zdG X) E1/\EBd E1 (j+1)/\∀p∈E1.S,p.2<12):=kA ⟨Ca.kb.keep kW.du.eb b4,λb c=>Nat.lt_of_lt_of_le (qo b c) b4.size,λb c d=>by have:=VP b d;have:=qo b c;omega,kW.du.ap,kW.du.f0,kW.ek,kW.eb,kW.lo⟩;have VQ:Hid (SX3 X/\EOk X E):=kA ⟨HS.sx,HS.ek⟩;have JG:=kA (yt.sync Ca om om);clear eby VP b4 qo JF dJ kW HS;go_wp2_with fail;refine JG.mono ?_;rintro e w5 ⟨a2,n2,c2,z2,f2,E2,Ez,yD,rfl,-,-,dO,s2,sub1,sub2,vX,-⟩;have cd:=(dO.anew yt.sx yt.ek).one yt.sx.wx (yi.anew VQ.1 VQ.2).ne;obtain⟨CR,dy⟩:=cd;subst CR;obtain⟨p1,p2,p3,p4,p5,p6,p7,p8⟩:=Kk.out;have JH:EB w5 g F1 E1:=Ca.kb.keep_ _ _ _ _ _ p1 (λb c=>vX.2.2.2.2 b (p2 b c) (λd=>d.elim (p3 b c) (p4 b c)));have dD:Hid (St13 EB XB w w5 g gs F1 yD E1 (zdG (zdG X)) (4*j+4) (j+2)):=kA ⟨⟨JH,s2.du.xb,λb c d=>(sub2 b d).elim (p4 b c) (λz=>by have:=p2 b c;omega),s2.du.be,p5,s2.du.f1⟩,s2.sx,p6.ne,s2.bs.mono om,p7.mono om,p8,s2.rm⟩;have yo:Hid (EB w5 gy Ez E2/\EOk (zdG (zdG X)) E2):=kA ⟨s2.du.eb,s2.ek⟩;have kh:E2.R.length=E1.R.length:=by rw[dy]
    have dU:Hid (E2.R=E1.R):=kA dy;have cJ:E1.R.length<=256:=p6.rlen;have QD:=kA (St13.recs Ca dD.du.eb dD.ek);have Cj:Hid (∀b,(F1 b∨yD b)->b<w5.heap.size):=kA (λb c=>c.elim (Ca.kb.inb _ _ _ _ dD.du.eb b) (dF.kb.inb _ _ _ _ dD.du.xb b));clear dO s2 sub1 sub2 vX p1 p2 p3 p4 p5 p6 p7 p8 JH JG yt Kk dy;obtain⟨nr,QE⟩:∃nr,nr=E1.R.length:=⟨_,rfl⟩;rw[<-QE]at QD kh cJ;have M5:=kA QE;have DT:=kA kh;clear QE kh;go_wp2_with fail;refine QD.mono ?_;rintro e w6 ⟨a6,c6,rfl,r6,-,b6⟩;have JI:=kA (zAz (cap:=c6) r6 cJ);have dY:=kA b6;clear r6 b6 QD;go_wp2_with fail;refine JI.mono ?_;rintro e w7 ⟨a7,c7,rfl,r7,NQ,b7⟩;have M6:Hid (∀ad,a7=some ad->¬(F1 ad.block∨yD ad.block)):=kA (λad e c=>by have h1:=NQ ad e;have h2:=dY.size;have h3:=Cj.out _ c;omega);clear NQ;have qp:=zad dY b7;replace dD:=kA (dD.keep Ca.kb dF.kb qp);replace yo:=kA (And.intro (Ca.kb.keep yo.1 qp) yo.2);have Xa:=kA r7;have YS:=kA (St13.recs Ca yo.1 yo.2);rw[DT.out,dU.out]at YS;clear r7 b7 qp JI dY;go_wp2_with fail;refine YS.mono ?_;rintro e w8 ⟨a8,c8,rfl,r8,-,b8⟩;have JJ:=kA (zAz (cap:=c8) r8 cJ);have BH:=kA b8;clear r8 b8 YS;go_wp2_with fail;refine JJ.mono ?_;rintro e w9 ⟨a9,c9,rfl,r9,-,b9⟩;have qq:=zad BH b9;replace dD:=kA (dD.keep Ca.kb dF.kb qq);replace Xa:=kA (Xa.keep qq);have Do:=kA (zkz a7 c7 a9 c9 nr E1.R w9 Xa r9);clear r9 b9 qq JJ BH yo;go_wp2_with fail;refine Do.mono ?_;rintro e vV ⟨rfl,Zx⟩;replace dD:=kA (dD.keep Ca.kb dF.kb Zx);replace Xa:=kA (Xa.keep Zx);have JK:=kA (dD.sync Ca om om);clear Zx Do;go_wp2_with fail;refine JK.mono ?_;rintro e yE ⟨GI,n11,EA,GJ,f11,ED,GK,EE,rfl,JL,-,JM,NR,-,-,vY,-⟩;obtain⟨q1,q2,q3⟩:=zxN VQ.1 VQ.2 yi JM;subst q1;rw[q3]at JL;subst JL;have YX:=kA NR;have Re:Hid (ED.R=E1.R):=kA q2;have JN:Hid (∀W,Bw yE W->zbz W a7 nr E1.R):=kA (λW q=>(zuN Xa vY M6).keep q);have Rf:=kA (St13.recs Ca YX.du.eb YX.ek);rw[Re.out,<-M5.out]at Rf;clear JM NR q2 q3 vY JK dD Xa;go_wp2_with fail;refine Rf.mono ?_;rintro e vW ⟨a12,c12,rfl,NS,-,NT⟩;have Zq:=kA (zAz (cap:=c12) NS cJ);have qs:=kA NT;clear NS NT Rf;go_wp2_with fail;refine Zq.mono ?_;rintro e Yj ⟨EF,Tj,rfl,NU,-,qT⟩;have Do:=kA (zkz a7 c7 EF Tj nr E1.R Yj (JN Yj (zad qs qT)) NU);have yu:=kA (zad YX.du.be (zad qs qT));clear NU qT Zq qs YX JN;go_wp2_with fail;refine Do.mono ?_;rintro e Ey ⟨rfl,NV⟩;replace yu:=kA (zad yu NV);clear NV Do;go_wp2_with fail;refine (yq _).mono ?_;rintro e GL ⟨rfl,NW⟩;replace yu:=kA (zad yu NW);clear NW;go_wp2;go_ret;exact⟨by simp,yu⟩
end
theorem World.heap_alloc_at13(w:World)(o:Obj):(w.alloc o).heap[w.heap.size]? =some o:=by
 show (w.heap.push o)[w.heap.size]? =some o;exact Array.getElem?_push_size
theorem zsj(n:Nat)(w:World)(hn:n<=100000):
  Calls prog 133 #[.slice none 0 0,.int .i64 n] w λe w'=>∃v,e= .returned v/\OwnD w' w.heap.size v 0 []/\Bw w w':=by
 obtain⟨i0,ku,kO,kP,kH⟩:=info_parts zcr;have h1:¬((n:Int)<0):=om;have h2:IntKind.i64.wrap ((n:Int) - 0)=(n:Int):=by rw[IntKind.wrap_i64];omega
 have h0:IntKind.i64.wrap ((0:Int) - 0)=0:=by rw[IntKind.wrap_i64];omega
 by_cases Cc:n=0
 ·subst Cc;have hO:Hid (OwnD w w.heap.size (.slice none 0 0) 0 []):=kA (World.ownsRow_nil _ _ _ _);go_enter func133,ntmps133;go_wp2;go_ret;exact⟨_,rfl,hO.out,Below.refl _ _⟩
 ·have ZN:i0.bytes=8:=kH;have Ks:i0.size=1:=kP;have hold:(Builtin.firstCells i0.size 0 (.slice none 0 0)).run prog w.drew= .ok ([]:List Value).toArray w.drew:=run_firstCells_none w.drew i0.size 0 0 0;have zC:∀ty,(Builtin.append_ #[35,3] ty #[.slice none 0 0,.int .i64 (n:Int)]).run prog w=
    .ok (.slice (some ⟨w.heap.size,0,none⟩) n (grownCap w n 0 81)) (w.drew.alloc (.cells (([]:List Value).toArray++Builtin.zeroCells (Value.int .i64 0).cells n++Builtin.zeroCells (Value.int .i64 0).cells (grownCap w n 0 81 - n)) 81)):=λty=>by
   have h:=Lib.run_append_grow_zeros w 35 3 ty 81 i0 _ .i64 .i64 underlying35 underlying3 ku kO none 0 0 [] hold n om om om om (by rw[ZN];omega) (by rw[ZN];exact growslice_fits om om);rw[Nat.zero_add]at h;exact h
  have Sd:n<=grownCap w n 0 81:=grownCap_ge w _ _ _;have VR:=grownCap_le_maxLen w n 0 81 (by unfold maxLen;omega);obtain⟨G,hG⟩:∃G,G=grownCap w n 0 81:=⟨_,rfl⟩;rw[<-hG]at zC Sd VR;have je:G<=9223372036854775807:=by unfold maxLen at VR;omega
  obtain⟨ROW,Ci⟩:∃ROW:Array Value,ROW=([]:List Value).toArray++Builtin.zeroCells (Value.int .i64 0).cells n++Builtin.zeroCells (Value.int .i64 0).cells (G - n):=⟨_,rfl⟩;have M7:ROW.size=G:=by
   rw[Ci];simp[Builtin.zeroCells,Value.cells];omega
  rw[<-Ci]at zC
  have hO:Hid (OwnD (w.drew.alloc (.cells ROW 81)) w.heap.size (.slice (some ⟨w.heap.size,0,none⟩) 0 G) 0 []/\Bw w (w.drew.alloc (.cells ROW 81))):=kA ⟨by
   refine⟨rfl,.inr ⟨w.heap.size,G,ROW,rfl,Nat.le_refl _,?_,zero_le _,VR,om,by simp⟩⟩
   exact World.heap_alloc_at13 w.drew _,zag (zaE (Below.refl _ _)) _⟩
  have n0:(0:Int)<(n:Int):=om;clear Ci M7 hG VR ku kO kP kH hold ZN Ks;go_enter func133,ntmps133;go_wp2_with (at_builtin;refine Lib.wpList_append_run _ rfl _ _ _ _ rfl _ _ rfl rfl _ _ (zC _) ?_)
  all_goals (go_ret;exact⟨_,rfl,hO.out.1,hO.out.2⟩)
theorem zo8(b:Nat)(a1 a2:Option Addr)(n1 c1 n2 c2 cap:Nat)(z1 z2:List Int)(w:World)(f1:w.cell? ⟨b,0,none⟩=some (.slice a1 n1 c1))(f2:w.cell? ⟨b,1,none⟩=some (.slice a2 n2 c2))(r1:Row w a1 n1 z1)(r2:Row w a2 n2 z2)(h1:n1<=40000)(h2:n2<=40000):
  Calls prog 73 #[.slice (some ⟨b,0,none⟩) 2 cap] w λe w'=>∃v,e= .returned v/\OwnD w' w.heap.size v (n1+n2) (z1++z2)/\Bw w w':=by
 have Ho:=World.block_lt_of_cell? _ _ f1;have HK:Hid (∀W,Bw w W->W.cell? ⟨b,0,none⟩=some (.slice a1 n1 c1)/\W.cell? ⟨b,1,none⟩=some (.slice a2 n2 c2)/\b<W.heap.size/\Row W a1 n1 z1/\Row W a2 n2 z2):=kA (λW q=>⟨zao f1 q,zao f2 q,Nat.lt_of_lt_of_le Ho q.size,zar r1 q,zar r2 q⟩);have HG:=kA (zsj (n1+n2) w om);have s1:IntKind.i64.wrap ((0:Int)+(n1:Int))=((n1:Nat):Int):=by rw[IntKind.wrap_i64];omega
 have s2:IntKind.i64.wrap ((n1:Int)+(n2:Int))=((n1+n2:Nat):Int):=by rw[IntKind.wrap_i64];omega
 have t1:¬((n1:Int)<0):=om;have t2:¬(((n1+n2:Nat):Int)<0):=om;clear r1 r2;go_enter func73,ntmps73;go_wp2;refine wp_loop_rounds 3 ?_;rw[rounds_succ];go_wp2;rw[rounds_succ];go_wp2;rw[rounds_succ];go_wp2_with fail;refine HG.mono ?_;rintro e w1 ⟨v,rfl,ho,hb⟩;obtain⟨f1',f2',YL,NY,sC⟩:=HK.out w1 hb;have HO:=kA ho;have HB:=kA hb;have De:=kA NY;clear ho hb NY sC HG f1 f2;go_wp2;refine wp_loop_rounds 3 ?_;rw[rounds_succ];go_wp2_with (at_builtin;refine zgP rfl (.tmp 31) (.tmp 32) rfl w.heap.size 0 v [] rfl HO a1 n1 c1 z1 rfl De om om HB.size ?_);intro v2 w2 k1 k2;have Hm:Hid (Bw w w2):=kA (zbm HO (Nat.le_refl _) HB k2);obtain⟨f1'',f2'',BI,-,sC⟩:=HK.out w2 Hm;have Dm:=kA k1;have ki:=kA sC;clear k1 k2 sC HB HO De f1' f2' YL;go_wp2;rw[rounds_succ];go_wp2_with (at_builtin;refine zgP rfl (.tmp 31) (.tmp 32) rfl w.heap.size n1 v2 z1 rfl Dm a2 n2 c2 z2 rfl ki om om Hm.size ?_);intro v3 w3 k1 k2;have K:Hid (OwnD w3 w.heap.size v3 (n1+n2) (z1++z2)/\Bw w w3):=kA ⟨k1,zbm Dm (Nat.le_refl _) Hm k2⟩;clear k1 k2 Hm Dm ki HK;go_wp2;rw[rounds_succ];go_wp2;go_ret;exact⟨v3,rfl,K.1,K.2⟩
theorem zsk:zbt 142:=λ_ _=>oM
theorem zsl(a:Rc)(y:Int)(w:World):Calls prog 142 #[.agg (cRc a).toArray,.int .i64 y] w λe w'=>e= .returned (.int .i64 (zf2 a.id y))/\Bw w w':=by
 have HC:=kA (zrr a.id y);have K0:Hid ((w.alloc (.cells (cRc a).toArray 92)).cell? ⟨w.heap.size,0,none⟩=some (.int .i64 a.id)):=kA ((Blk.new w 92 (cRc a).toArray).cell 0);have HB:Hid (Bw w (w.alloc (.cells (cRc a).toArray 92))):=kA (zaa _ _);obtain⟨A,hA⟩:∃A,A=(cRc a).toArray:=⟨_,rfl⟩;rw[<-hA]at K0 HB ⊢;clear hA;go_enter func142,ntmps142;go_upto_region 1 with fail;refine fin (λW=>W.cell? ⟨w.heap.size,0,none⟩=some (.int .i64 a.id)/\Bw w W) ⟨K0,HB⟩ ?_;rintro W ⟨c0,hb⟩;have Hg:=kA hb;clear hb HB K0;go_wp2_with fail;refine (HC _).mono ?_;rintro e w1 ⟨rfl,rfl⟩;go_wp2;go_ret;exact⟨rfl,Hg⟩
theorem zo9{a b:Int}:(zf2 a b=0)↔a=b:=by
 unfold zf2
 by_cases h:a<b
 ·rw[if_pos h];constructor <;> intro q <;> omega
 ·rw[if_neg h]
  by_cases h2:b<a
  ·rw[if_pos h2];constructor <;> intro q <;> omega
  ·rw[if_neg h2];constructor <;> intro q <;> omega
theorem zxO(av:Option Addr)(n cap:Nat)(X:List Rc)(y:Int)(w:World)(row:zbz w av n X)(hR:zdy X)(hn:n<=100000):
  Calls prog 141 #[.slice av n cap,.int .i64 y,.func (.func 142) #[] #[]] w λe w'=>∃i:Int,e= .returned (.tuple #[.int .i64 i,.bool (decide (y∈X.map Rc.id))])/\Bw w w':=by
 have kJ:=kA row.1;have hJ:=kA row;have DD:=kA hR;have hE:=zsk;unfold zbt at hE;clear row hR;go_enter func141,ntmps141;go_wp2
 go_loopw [9,10,11] (λv9 sD _ wr=>∃lo hi:Nat,v9= .int .i64 lo/\sD= .int .i64 hi/\lo<=hi/\hi<=n/\(∀t x,X[t]? =some x->t<lo->x.id<y)/\(∀t x,X[t]? =some x->hi<=t->y<=x.id)/\Bw w wr) (λv9 sD _ _=>(ivl sD).toNat - (ivl v9).toNat)
 case atStart=>exact⟨0,n,rfl,rfl,om,om,λt x _ h=>om,λt x h q=>by have:=(List.getElem?_eq_some_iff.1 h).1;have:=kJ.out;omega,Below.refl _ _⟩
 case round=>
  obtain⟨lo,hi,rfl,rfl,gq,hin,h1,h2,hb⟩:=hrel;have H1:=kA h1;have H2:=kA h2;have HB:=kA hb;clear h1 h2 hb
  by_cases hlt:lo<hi
  ·obtain⟨p,hp⟩:∃p,p=(lo+hi) / 2:=⟨_,rfl⟩;have zG:lo<=p:=om;have gw:p<hi:=om;have gz:((lo:Int)+(hi:Int)) / 2=(p:Int):=om;obtain⟨b,off,x,rfl,Ho,hx,hr⟩:=hJ.at_ (i:=p) om;have HL:Hid (∀W,Bw w W->W.rangeAt b (off+p*12) (cRc x)):=kA (λW q=>zaF hr (q.block b Ho));have xj:=kA (HL wr HB);have KI:Hid (∀W,Calls prog 142 #[.agg (cRc x).toArray,.int .i64 y] W λe w'=>e= .returned (.int .i64 (zf2 x.id y))/\Bw W w'):=kA (λW=>zsl x y W);have Ha:=kA (zaK x);have cN:Hid (zf2 x.id y<0↔x.id<y):=kA zlZ
   have Ht:Hid (x.id<y->∀t z,X[t]? =some z->t<p+1->z.id<y):=kA (λhlt t z hz ht=>by
    by_cases e:t=p
    ·subst e;rw[hx]at hz;injection hz with hz;rw[<-hz];exact hlt
    ·have QF:=(List.getElem?_eq_some_iff.1 hz).1;have Cf:=(List.getElem?_eq_some_iff.1 hx).1;have:=List.pairwise_iff_getElem.1 DD t p QF Cf om;rw[(List.getElem?_eq_some_iff.1 hz).2,(List.getElem?_eq_some_iff.1 hx).2]at this
     omega)
   have Hr:Hid (¬x.id<y->∀t z,X[t]? =some z->p<=t->y<=z.id):=kA (λhlt t z hz ht=>by
    by_cases e:t=p
    ·subst e;rw[hx]at hz;injection hz with hz;rw[<-hz];omega
    ·have QF:=(List.getElem?_eq_some_iff.1 hz).1;have Cf:=(List.getElem?_eq_some_iff.1 hx).1;have:=List.pairwise_iff_getElem.1 DD p t Cf QF om;rw[(List.getElem?_eq_some_iff.1 hz).2,(List.getElem?_eq_some_iff.1 hx).2]at this
     omega)
   obtain⟨XP,dL⟩:∃XP,XP=cRc x:=⟨_,rfl⟩;rw[<-dL]at KI Ha HL xj;obtain⟨cc,dR⟩:∃cc,cc=zf2 x.id y:=⟨_,rfl⟩;rw[<-dR]at KI cN;obtain⟨xi,JO⟩:∃xi,xi=x.id:=⟨_,rfl⟩;rw[<-JO]at cN Ht Hr;have k0:(lo:Int)<(hi:Int):=om;have p0:(0:Int)<=(p:Int):=om;have p1:(p:Int)<(n:Int):=om;clear dR JO dL hx hr hp
   go_wp2_with (first
    | refine wpList_load_mid rfl 92 (.tmp 27) rfl b (off+p*12) rfl XP _ xj underlying92 rfl Ha ?_)
   refine (KI _).mono ?_;rintro e w1 ⟨rfl,b1⟩;replace HB:=kA (zad HB b1);clear b1 KI HL xj Ha
   by_cases xG:xi<y
   ·have dR:cc<0:=cN.2 xG;have HN:=kA (Ht xG);clear Ht Hr cN xG;go_wp2;go_roundw
    case rel=>exact⟨p+1,hi,by go_num,rfl,om,om,HN.out,H2.out,HB⟩
    case measure=>simp[ivl] <;> omega
   ·have dR:¬cc<0:=λc=>xG (cN.1 c);have HN:=kA (Hr om);clear Ht Hr cN xG;go_wp2;go_roundw
    case rel=>exact⟨lo,p,rfl,rfl,om,om,H1.out,HN.out,HB⟩
    case measure=>simp[ivl] <;> omega
  ·obtain rfl:lo=hi:=om
   by_cases qf:lo<n
   ·obtain⟨b,off,x,rfl,Ho,hx,hr⟩:=hJ.at_ (i:=lo) qf;have xj:Hid (wr.rangeAt b (off+lo*12) (cRc x)):=kA (zaF hr (HB.block b Ho));have KI:Hid (∀W,Calls prog 142 #[.agg (cRc x).toArray,.int .i64 y] W λe w'=>e= .returned (.int .i64 (zf2 x.id y))/\Bw W w'):=kA (λW=>zsl x y W);have Ha:=kA (zaK x)
    have Xs:Hid (decide (y∈X.map Rc.id)=decide (x.id=y)):=kA (by
     rw[decide_eq_decide,mem_map];constructor
     ·rintro⟨z,hz,rfl⟩;obtain⟨t,ht⟩:=getElem?_of_mem hz
      by_cases c:t<lo
      ·have:=H1.out t z ht c;omega
      ·by_cases d:t=lo
       ·subst d;rw[hx]at ht;injection ht with ht;rw[ht]
       ·have q:=H2.out lo x hx (Nat.le_refl _);have QF:=(List.getElem?_eq_some_iff.1 ht).1;have Cf:=(List.getElem?_eq_some_iff.1 hx).1;have:=List.pairwise_iff_getElem.1 DD lo t Cf QF om;rw[(List.getElem?_eq_some_iff.1 ht).2,(List.getElem?_eq_some_iff.1 hx).2]at this;omega
     ·intro e
      exact⟨x,mem_of_getElem? hx,e⟩)
    have yM:Hid (zf2 x.id y=0↔x.id=y):=kA zo9;obtain⟨XP,dL⟩:∃XP,XP=cRc x:=⟨_,rfl⟩;rw[<-dL]at KI Ha xj;obtain⟨cc,dR⟩:∃cc,cc=zf2 x.id y:=⟨_,rfl⟩;rw[<-dR]at KI yM;obtain⟨xi,JO⟩:∃xi,xi=x.id:=⟨_,rfl⟩;rw[<-JO]at yM Xs;have k0:¬(lo:Int)<(lo:Int):=om;have p0:(0:Int)<=(lo:Int):=om;have p1:(lo:Int)<(n:Int):=om
    have HZ:Hid ((cc==0)=decide (y∈X.map Rc.id)):=kA (by
     rw[Xs.out]
     by_cases c:cc=0
     ·rw[decide_eq_true (yM.1 c),c];rfl
     ·rw[decide_eq_false (λq=>c (yM.2 q))];exact beq_eq_false_iff_ne.2 c)
    clear dR JO dL hx hr H1 H2
    go_wp2_with (first
     | refine za6 (by rfl) 92 (.tmp 43) rfl b (off+lo*12) rfl XP _ xj underlying92 rfl Ha ?_)
    refine (KI _).mono ?_;rintro e w1 ⟨rfl,b1⟩;replace HB:=kA (zad HB b1);clear b1 KI xj Ha yM;go_wp2;go_ret2;exact⟨(lo:Int),by rw[<-HZ.out];rfl,HB⟩
   ·have Xs:Hid (decide (y∈X.map Rc.id)=false):=kA (decide_eq_false (by
     rw[mem_map];rintro⟨z,hz,rfl⟩;obtain⟨t,ht⟩:=getElem?_of_mem hz;have QF:=(List.getElem?_eq_some_iff.1 ht).1;have:=H1.out t z ht (by have:=kJ.out;omega)
     omega))
    have k0:¬(lo:Int)<(lo:Int):=om;have p1:¬(lo:Int)<(n:Int):=om;go_wp2;go_ret2
    first
     | exact⟨(lo:Int),by rw[Xs.out];rfl,HB⟩
     | exact⟨Xs.symm,HB⟩
     | exact⟨Xs,HB⟩
     | exact⟨by simpa using Xs.out,HB⟩
theorem zuO{tb:Nat}{T:Int->Option Unit}(hm:MFi kI w tb T)(l N:Nat)(hl:l<=N)(hN:N<=100000)(hT:(T (N:Nat)).isSome=false):
  Calls prog 143 #[.map (some tb),.int .i64 l] w λe w'=>∃n:Nat,e= .returned (.int .i64 n)/\l<=n/\n<=N/\(∀m:Nat,l<=m->m<n->(T (m:Nat)).isSome=true)/\(T (n:Nat)).isSome=false/\Bw w w':=by
 have HM:=kA hm;have HT:=kA hT;clear hm hT;go_enter func143,ntmps143;go_wp2
 go_loopw [1,5,6] (λv1 _ _ wr=>∃k:Nat,v1= .int .i64 k/\l<=k/\k<=N/\(∀m:Nat,l<=m->m<k->(T (m:Nat)).isSome=true)/\Bw w wr) (λv1 _ _ _=>N - (ivl v1).toNat)
 case atStart=>exact⟨l,rfl,om,hl,λm h1 h2=>om,Below.refl _ _⟩
 case round=>
  obtain⟨k,rfl,Cd,xE,hk,hb⟩:=hrel;have HK:=kA hk;have HB:=kA hb;clear hk hb;have de:Rg (k:Int):=by unfold Rg;omega
  have Kz:(Instr.lookup 237 (.map (some tb)) (.int .i64 (k:Int)) true).run prog wr= .ok (.tuple #[.agg #[],.bool (T (k:Nat)).isSome]) wr:=(HM.keep HB).look de;obtain⟨bb,Kt⟩:∃bb,bb=(T (k:Nat)).isSome:=⟨_,rfl⟩;rw[<-Kt]at Kz;have Dp:=kA Kt;have Hl:Bw wr (wr.alloc (.cells #[] 220)):=zaa _ _;have jP:=kA (zad HB Hl);clear Kt de Hl;go_upto_region 2 with fail;refine fin (λW=>Bw w W) jP ?_;clear jP Kz HB;intro W KU;have HB:=kA KU;clear KU
  cases bb with
  | false=>
   go_wp2;go_ret;exact⟨k,rfl,om,om,HK.out,Dp.symm,HB⟩
  | true=>
   have gA:k≠N:=λe=>by
    have h1:=HT.out;rw[<-e,<-Dp.out]at h1
    cases h1
   have jT:Hid (∀m:Nat,l<=m->m<k+1->(T (m:Nat)).isSome=true):=kA (λm h1 h2=>by
    by_cases c:m=k
    ·rw[c];exact Dp.symm
    ·exact HK m h1 om)
   go_wp2;go_roundw
   case rel=>exact⟨k+1,by go_num,om,om,jT.out,HB⟩
   case measure=>simp[ivl] <;> omega
theorem zfF{S:SlR}(hS:SI S){x:Int}:(slM S x).isSome=true↔x∈S.map Prod.fst:=by
 unfold slM;rw[<-zbd hS]
 by_cases c:0<=zaO S x
 ·rw[if_pos c];exact⟨λ_=>c,λ_=>rfl⟩
 ·rw[if_neg c];exact⟨λh=>(by cases h),λh=>absurd h c⟩
theorem zfe(w:World)(n:Nat):Bw w (w.drewN n):=⟨rfl,rfl,rfl,Nat.le_refl _,λ_ _=>rfl⟩
theorem zcV(w:World):Bw w w.drew:=⟨rfl,rfl,rfl,Nat.le_refl _,λ_ _=>rfl⟩
theorem zsm(S:SlR)(fi:List Int):zjA S [] fi=slM S:=funext λx=>by
 unfold zjA;rw[if_neg (λq=>by cases q.1)]
theorem zpa{α β:Type}(f:β->α->β)(b:β){l:List α}{j:Nat}{x:α}(h:l[j]? =some x):(l.take (j+1)).foldl f b=f ((l.take j).foldl f b) x:=by
 rw[take_add_one,h,foldl_append];rfl
theorem zsn(zs:List Int):∀ (S:SlR),(zs.foldl za1 S).length<=S.length+zs.length:=by
 induction zs with
 | nil=>exact λ_=>Nat.le_refl _
 | cons x zs ih=>
   intro S;have h1:=ih (za1 S x);have h2:=zud S x;rw[length_cons];show (zs.foldl za1 (za1 S x)).length<=_;omega
def TkS(K:SlR)(left:Lit->Bool)(T:Int->Option Unit):Prop:=∀n:Int,(T n).isSome=true↔∃x,(x,n)∈K/\left (.int .i64 x)=false
theorem zpb{g mb nF cF:Nat}{aF:Option Addr}{fr:List Rc}{S K:SlR}(hm:MF sK13 w mb (slM S))
  (xr:Hid (∀W,w.grownBy W (some mb)->Row W a n zs/\zbz W aF nF fr/\W.cell? ⟨g,2,none⟩=some (.map (some mb))/\g<W.heap.size))
  (kw:zdy fr)(hK:SI K)(JP:zjA S zs (fr.map Rc.id)=slM K)(KH:Rgs zs)(Ki:Rgs (fr.map Rc.id))(JQ:∀p∈K,Rg p.1/\0<=p.2/\p.2<1000)(C9:K.length<=1000)(hn:n<=1900)(gB:nF<=1900):
  Calls prog 78 #[.pointer (some ⟨g,0,none⟩),.slice a n cap,.slice aF nF cF] w λe w'=>e= .returned (.tuple #[])/\MF sK13 w' mb (slM ((fr.map Rc.id).foldl za1 K))/\w.grownBy w' (some mb):=by
 have Xh:= @run_makeMap prog;have Dk:Hid (∀W y,w.grownBy W (some mb)->Calls prog 141 #[.slice aF nF cF,.int .i64 y,.func (.func 142) #[] #[]] W λe w'=>∃i:Int,e= .returned (.tuple #[.int .i64 i,.bool (decide (y∈fr.map Rc.id))])/\Bw W w'):=kA (λW y q=>zxO aF nF cF fr y W (xr W q).2.1 kw om);have qt:=kA KH;have Kq:=kA Ki;have qd:=kA hK;have QG:=kA JQ;have dS:=kA JP;have Cn:Hid (MF sK13 w mb (zjA S (zs.take 0) (fr.map Rc.id))):=kA (by rw[take_zero,zsm];exact hm);have X6:Hid (zs.length=n):=kA (xr w ⟨rfl,rfl,rfl,Nat.le_refl _,λ_ _ _=>rfl⟩).1.1;have zN:Hid (fr.length=nF):=kA (xr w ⟨rfl,rfl,rfl,Nat.le_refl _,λ_ _ _=>rfl⟩).2.1.1;have xQ:Hid (zs.take n=zs):=kA (take_of_length_le (by rw[X6.out];exact Nat.le_refl _));have M8:Hid (w.grownBy w (some mb)):=kA ⟨rfl,rfl,rfl,Nat.le_refl _,λ_ _ _=>rfl⟩
 have ZU:Hid (∀W j y,MF sK13 W mb (zjA S (zs.take j) (fr.map Rc.id))->zs[j]? =some y->y∉fr.map Rc.id->Rg y->∃w',(∀ty,(Builtin.delete_ #[106,81] ty #[.map (some mb),.int .i64 y]).run prog W= .ok (.tuple #[]) w')/\MF sK13 w' mb (zjA S (zs.take (j+1)) (fr.map Rc.id))/\W.grownBy w' (some mb)):=kA (λW j y h hj hy hr=>by
  obtain⟨w',h1,h2,h3⟩:=h.del hr;refine⟨w',h1,?_,h3⟩;rw[znV hj,if_neg hy]
  exact h2)
 have VS:Hid (∀W j y,MF sK13 W mb (zjA S (zs.take j) (fr.map Rc.id))->zs[j]? =some y->y∈fr.map Rc.id->MF sK13 W mb (zjA S (zs.take (j+1)) (fr.map Rc.id))):=kA (λW j y h hj hy=>by rw[znV hj,if_pos hy];exact h);have Rh:Hid (∀W,MF sK13 W mb (zjA S (zs.take n) (fr.map Rc.id))->MF sK13 W mb (slM K)):=kA (λW h=>by rw[xQ.out,dS.out]at h;exact h);obtain⟨dm,BJ⟩:∃dm:Nat->Int->Option Int,dm=λj=>zjA S (zs.take j) (fr.map Rc.id):=⟨_,rfl⟩;have edm:∀j,zjA S (zs.take j) (fr.map Rc.id)=dm j:=λj=>by rw[BJ]
 simp only[edm]at Cn ZU VS Rh;obtain⟨fi,qu⟩:∃fi,fi=fr.map Rc.id:=⟨_,rfl⟩;have VT:=kA qu;rw[<-qu]at Dk Kq ZU VS ⊢;clear KH Ki hK JQ JP hm kw dS xQ BJ edm qu;go_enter func78,ntmps78;go_wp2
 go_loopw [7,8,9,20] (λ_ _ _ v20 wr=>∃j:Nat,v20= .int .i64 j/\j<=n/\MF sK13 wr mb (dm j)/\w.grownBy wr (some mb)) (λ_ _ _ v20 _=>n - (ivl v20).toNat)
 case atStart=>exact⟨0,rfl,om,Cn.out,M8⟩
 case round=>
  clear Cn;obtain⟨j,rfl,hj,hm,hg⟩:=hrel;have HM:=kA hm;have HG:=kA hg;clear hm hg
  by_cases hlt:j<n
  ·have j0:(0:Int)<=(j:Int):=om;have j1:(j:Int)<(n:Int):=om;obtain⟨ib,ioff,y,rfl,hy,cy⟩:=zci (xr wr HG).1 hlt;have Jr:=World.block_lt_of_cell? _ _ cy;have HY:=kA hy;have YS:=kA (qt y (mem_of_getElem? hy));clear hy;go_wp2_with fail;refine (Dk _ y HG).mono ?_;rintro e w5 ⟨i5,rfl,b5⟩;have Ri:=kA (HM.keep b5);have Rj:Hid (w.grownBy w5 (some mb)):=kA (zaq HG (zaQ b5 _));obtain⟨-,-,c2,Ko⟩:=xr.out w5 Rj;clear b5 cy Jr HM HG;obtain⟨bb,Kt⟩:∃bb,bb=decide (y∈fi):=⟨_,rfl⟩;rw[<-Kt];have Dp:=kA Kt;clear Kt
   cases bb with
   | true=>
    have HN:=kA (VS w5 j y Ri HY (of_decide_eq_true Dp.symm));go_wp2;go_roundw
    case rel=>exact⟨j+1,by go_num,om,HN.out,Rj⟩
    case measure=>simp[ivl] <;> omega
   | false=>
    obtain⟨w6,r1,JR,CJ⟩:=ZU.out w5 j y Ri HY (of_decide_eq_false Dp.symm) YS;have HN:=kA (And.intro JR (zaq Rj CJ));clear JR CJ;go_wp2_with (at_builtin;refine za9 rfl (.tmp 36) (.tmp 37) 106 81 rfl _ _ rfl rfl (r1 _) ?_);clear r1 c2 Ko Ri;go_wp2;go_roundw
    case rel=>exact⟨j+1,by go_num,om,HN.1,HN.2⟩
    case measure=>simp[ivl] <;> omega
  ·obtain rfl:j=n:=om;have j2:¬(j:Int)<(j:Int):=om;have Rk:=kA (Rh _ HM);have Rl:=Rk.lt;have dQ:=HG.size;clear HM Rh VS ZU Dk qt X6;go_upto_region 8 with fail;have Hl:Bw wr (wr.alloc (.map #[] 0)):=zaa _ _;refine fin (λW=>MF sK13 W mb (slM K)/\MFi kI W wr.heap.size (λ_=>none)/\w.grownBy W (some mb)) ⟨Rk.keep Hl,MFi.new kI wr,zaq HG (zaQ Hl _)⟩ ?_;obtain⟨tb,BK⟩:∃tb,tb=wr.heap.size:=⟨_,rfl⟩;have JS:tb≠mb:=om;have gC:w.heap.size<=tb:=om;rw[<-BK];clear Hl Rk HG Rl dQ BK;rintro W ⟨hm,ht,hg⟩;obtain⟨-,-,c2,Ko⟩:=xr.out W hg;obtain⟨W1,left,cnt,de,yv,cJ,Qq,Hh,Ks⟩:=hm.range13;have QH:=kA yv;have Yv:Hid (MFi kI W1 tb (λ_=>none)):=kA (ht.same (Hh.block _ ht.lt (by simp)));have BL:Hid (w.grownBy W1 (some mb)):=kA (zaq hg (Hh.but _));have HL:=kA cJ
   have JU:Hid (TkS K left (λ_=>none)):=kA (λm=>⟨λh=>(by cases h),λ⟨x,hx,hl⟩=>by
    have h1:(slM K x).isSome=true:=(zfF qd).2 (mem_map.2 ⟨_,hx,rfl⟩);rw[Qq x (QG _ hx).1,h1]at hl
    cases hl⟩)
   have Rm:tb≠W.heap.size:=by have:=ht.lt;omega
   have Kf:w.heap.size<=W.heap.size:=hg.size;obtain⟨r,hr⟩:∃r,r=W.heap.size:=⟨_,rfl⟩;rw[<-hr]at de QH Rm Kf;clear hm ht hg yv cJ Qq Hh Ks hr;go_wp2
   go_loopw [12] (λ_ wq=>∃ (left:Lit->Bool) (cnt:Nat) (T:Int->Option Unit),MRg sK13 wq mb r (slM K) left cnt/\(∀x,left (.int .i64 x)=true->(slM K x).isSome=true/\Rg x)/\MFi kI wq tb T/\TkS K left T/\w.grownBy wq (some mb)) (λ_ wq=>wq.rangeLeft mb r)
   case atStart=>exact⟨left,cnt,_,QH.out,HL.out,Yv.out,JU.out,BL⟩
   case round=>
    clear QH HL Yv JU BL de c2 Ko left cnt;obtain⟨left,cnt,T,yv,cJ,ht,JV,hg⟩:=hrel;have QH:=kA yv;have HL:=kA cJ;have HT:=kA ht;have Rn:=kA JV;have HG:=kA hg;have Qp:=yv.lt;have qn:=yv.ne;have YY:=ht.lt;rcases yv.next cJ with ⟨h0,qv⟩ | ⟨x,s,w',cnt',hs,YN,qv,JW,YF,qw,Ro,Rp⟩
    ·have C6:Hid (∀m:Int,(T m).isSome=zc0 K m):=kA (λm=>by
      rw[Bool.eq_iff_iff,Rn m,zjb,mem_map];constructor
      ·rintro⟨x,hx,_⟩;exact⟨_,hx,rfl⟩
      ·rintro⟨⟨x,m'⟩,hx,rfl⟩;exact⟨x,hx,h0 x⟩)
     have HM:=kA yv.owns;obtain⟨-,-,c2,Ko⟩:=xr.out _ hg;have JX:Hid (LInv K ((fi.take 0).foldl za1 K) 0):=kA (LInv.start qd);have Cn:Hid (MF sK13 wr mb (slM ((fi.take 0).foldl za1 K))):=HM;clear yv cJ ht JV hg h0 QH HL Rn HM;go_wp2
     go_loopw [13,15,16,17,55] (λEG _ _ _ v55 wq=>∃ (k l:Nat),v55= .int .i64 k/\EG= .int .i64 l/\k<=nF/\LInv K ((fi.take k).foldl za1 K) l/\MF sK13 wq mb (slM ((fi.take k).foldl za1 K))/\MFi kI wq tb T/\w.grownBy wq (some mb)) (λ_ _ _ _ v55 _=>nF - (ivl v55).toNat)
     case atStart=>exact⟨0,0,rfl,rfl,om,JX.out,Cn.out,HT.out,HG⟩
     case round=>
      clear JX Cn HT HG c2 Ko;obtain⟨k,l,rfl,rfl,hk,YZ,hm,ht,hg⟩:=hrel;have xt:=kA YZ;have HM:=kA hm;have HT:=kA ht;have HG:=kA hg;have YY:=ht.lt
      by_cases Rq:k<nF
      ·have k0:(0:Int)<=(k:Int):=om;have k1:(k:Int)<(nF:Int):=om;obtain⟨-,BN,c2,Ko⟩:=xr.out _ hg;obtain⟨b,off,x,rfl,Ho,hx,hr⟩:=BN.at_ Rq;have VU:fi[k]? =some x.id:=by rw[VT.out,getElem?_map,hx];rfl
       have Kb:=kA (zpa za1 K VU);have Zp:Rg x.id:=Kq.out _ (mem_of_getElem? VU);have KJ:=YZ.bound;have kh:=zsn (fi.take k) K;have D7:(fi.take k).length<=k:=by rw[length_take];omega
       have Zr:Hid (∀y,((λy=>if y=x.id then some (0:Int) else slM ((fi.take k).foldl za1 K) y) y).isSome=true->y∈x.id::(((fi.take k).foldl za1 K).map Prod.fst)):=kA (λy hy=>by
        by_cases c:y=x.id
        ·rw[c];exact mem_cons_self
        ·simp only[if_neg c]at hy
         exact mem_cons_of_mem _ ((zfF YZ.si).1 hy))
       obtain⟨Sk,BO⟩:∃Sk,Sk=(fi.take k).foldl za1 K:=⟨_,rfl⟩;rw[<-BO]at xt HM Kb KJ kh Zr;have Kz:∀W,MF sK13 W mb (slM Sk)->(Instr.lookup 106 (.map (some mb)) (.int .i64 x.id) true).run prog W= .ok (.tuple #[.int .i64 ((slM Sk x.id).getD 0),.bool (slM Sk x.id).isSome]) W:=λW h=>h.look Zp;have D5:=kA Kz;have D8:=kA hr;have Ha:=kA (zaK x);have cZ:Hid ((prog.info? 92).map (·.size)=some (cRc x).toArray.size):=kA (by rw[size_toArray];exact zaK x);have BP:=kA (zbV x);have YK:Hid (∀W g,Blk W g 92 (cRc x).toArray->W.cell? ⟨g,0,none⟩=some (.int .i64 x.id)):=kA (λW g q=>q.cell 0);have xD:Hid ((cRc x).length=12):=kA rfl;obtain⟨XX,cB⟩:∃XX,XX=cRc x:=⟨_,rfl⟩;rw[<-cB]at D8 Ha cZ BP YK xD;obtain⟨y,hy⟩:∃y,y=x.id:=⟨_,rfl⟩;rw[<-hy]at Kb D5 YK Zr Zp VU;have YS:=kA Zp;have kj:Bw wr ((wr.alloc (.cells (cRc zRc).toArray 92)).setCells wr.heap.size 0 XX):=zab XX (zaa _ _) (Nat.le_refl _);have JY:Hid ((wr.alloc (.cells (cRc zRc).toArray 92)).there wr.heap.size 0 XX.toArray.size):=kA (zae (Blk.new wr _ _) (by rw[size_toArray,xD.out];exact Nat.le_refl 12));have JZ:Hid (Blk ((wr.alloc (.cells (cRc zRc).toArray 92)).setCells wr.heap.size 0 XX) wr.heap.size 92 XX.toArray/\Bw wr ((wr.alloc (.cells (cRc zRc).toArray 92)).setCells wr.heap.size 0 XX)):=kA ⟨zal (Blk.new wr _ _) (by rw[xD.out];rfl),kj⟩;clear YZ hm ht hg BN hx hr VU Zp Kz cB hy BO kj
       go_upto_region 16 with (first
        | refine wpList_load_mid rfl 92 (.tmp 57) rfl b (off+k*12) rfl XX _ D8 underlying92 rfl Ha ?_
        | refine wpList_store_mid rfl 92 (.tmp 15) (.tmp 58) rfl wr.heap.size 0 XX.toArray rfl rfl JY cZ BP ?_)
       refine fin (λW=>Blk W wr.heap.size 92 XX.toArray/\Bw wr W) JZ ?_;obtain⟨g15,xZ⟩:∃g,g=wr.heap.size:=⟨_,rfl⟩;have BQ:=HM.lt;have Rr:=HG.size;rw[<-xZ]at BQ YY Rr ⊢;rintro W ⟨yn,KU⟩
       try rw[xZ]at KU
       have Rt:=YK.out W g15 yn;have J0:=yn.lt;have Ru:=kA (HM.keep KU);have BR:=kA (HT.keep KU);have Rv:Hid (w.grownBy W (some mb)):=kA (zaq HG (zaQ KU _));obtain⟨-,-,Yh,Rw⟩:=xr.out _ Rv;have Kz:=λnq=>D5.out (W.drewN nq) (Ru.keep (zfe W nq));have Yc:=kA yn;have sU:(slM Sk y).isSome=decide (0<=zaO Sk y):=by
        unfold slM
        by_cases c:0<=zaO Sk y
        ·rw[if_pos c,decide_eq_true c];rfl
        ·rw[if_neg c,decide_eq_false c];rfl
       rw[sU]at Kz;obtain⟨sd,BS⟩:∃sd,sd=(slM Sk y).getD 0:=⟨_,rfl⟩;rw[<-BS]at Kz;obtain⟨bb,Kt⟩:∃bb,bb=decide (0<=zaO Sk y):=⟨_,rfl⟩;rw[<-Kt]at Kz;have Dp:=kA Kt;clear JZ JY D8 yn KU HM HT HG c2 Ko xZ Ho sU BS Kt D5;go_wp2;go_quiet (fail);have ZO:=zfe W nq;refine fin (λV=>Blk V g15 92 XX.toArray/\MF sK13 V mb (slM Sk)/\MFi kI V tb T/\w.grownBy V (some mb)/\w.heap.size<=g15) ⟨Yc.keep ZO,Ru.keep ZO,BR.keep ZO,zaq Rv (zaQ ZO _),Rr⟩ ?_;clear ZO Yc Ru BR Rv Kz Rt J0 Yh Rw BQ YY Rr;rintro V ⟨yn,hm,ht,hg,dQ⟩;have Yc:=kA yn;have HM:=kA hm;have HT:=kA ht;have HG:=kA hg;have gD:=kA dQ;clear yn hm ht hg dQ
       cases bb with
       | true=>
        have HE:=kA (zr9 (of_decide_eq_true Dp.out.symm));rw[HE.out]at Kb;have HR:Hid (LInv K ((fi.take (k+1)).foldl za1 K) l/\MF sK13 V mb (slM ((fi.take (k+1)).foldl za1 K))/\MFi kI V tb T/\w.grownBy V (some mb)):=kA ⟨Kb.out ▸ xt.out,Kb.out ▸ HM.out,HT.out,HG.out⟩;clear xt HM HT HG Yc Kb HE Dp;go_wp2;go_roundw
        case rel=>exact⟨k+1,l,by go_num,rfl,om,HR.1,HR.2.1,HR.2.2.1,HR.2.2.2⟩
        case measure=>simp[ivl] <;> omega
       | false=>
        have Hr:Hid (¬0<=zaO Sk y):=kA (of_decide_eq_false Dp.symm);have zJ:=kA (zuO HT l (zbw Sk) KJ.1 om (by rw[C6.out];exact KJ.2.1));go_wp2_with fail;refine zJ.mono ?_;rintro e V2 ⟨q,rfl,Xl,Qm,zZ,jX,b2⟩;have Rx:=xt.give (Int.not_le.2 Hr) Xl (λm h1 h2=>by rw[<-C6.out];exact zZ m h1 h2) (by rw[<-C6.out];exact jX)
        have Ry:Hid (LInv K ((fi.take (k+1)).foldl za1 K) (q+1)/\slM ((fi.take (k+1)).foldl za1 K)=upm (slM Sk) y (some (q:Int))):=kA ⟨Kb.out ▸ Rx.2,by
         rw[Kb.out,Rx.1]
         exact zuy xt.si (Int.not_le.2 Hr)⟩
        have xx:=HM.keep b2;have Zb:=HT.keep b2;have k2:=Yc.keep b2;have Ko:=zaq HG (zaQ b2 _);have ZS:Rg (q:Int):=by unfold Rg;omega
        have J1:MF sK13 V2.drew mb (slM Sk):=xx.keep (zcV V2)
        obtain⟨V3,Hf,jq,KO⟩:=J1.put YS (q:Int) (y::(Sk.map Prod.fst)) (λz hz=>by
         unfold upm at hz
         by_cases c:z=y
         ·rw[c];exact mem_cons_self
         ·rw[if_neg c]at hz
          exact mem_cons_of_mem _ ((zfF xt.si).1 hz)) (by rw[length_cons,length_map];omega)
        have zQ:(Instr.mapUpdate 106 (.map (some mb)) (.int .i64 y) (.int .i64 (q:Int))).run prog V2.drew= .ok () V3:=Hf;obtain⟨-,-,c2,M9⟩:=xr.out V2 Ko;have qy:w.grownBy V3 (some mb):=zaq Ko (zaq (b:=V2.drew) (zaQ (zcV V2) _) KO);obtain⟨-,-,c3,-⟩:=xr.out V3 qy;have J2:g15≠mb:=by
         have h1:=k2.lt;intro e;obtain⟨D,hD,_⟩:=xx;obtain⟨es,clock,hb,_⟩:=hD;have k3:=k2;unfold Blk at k3;rw[e,hb]at k3
         cases k3
        have C3:V3.cell? ⟨g15,0,none⟩=some (.int .i64 y):=YK.out V3 g15 (k2.same (KO.block _ k2.lt (by intro e;injection e with e;exact J2 e)));have BU:MFi kI V3 tb T:=Zb.same (KO.block _ Zb.lt (by intro e;injection e with e;exact JS e));have SA:=kA (And.intro c2 (YK V2 g15 k2));have SE:=kA (And.intro c3 C3);have J0:=k2.lt;have HR:Hid (LInv K ((fi.take (k+1)).foldl za1 K) (q+1)/\MF sK13 V3 mb (slM ((fi.take (k+1)).foldl za1 K))/\MFi kI V3 tb T/\w.grownBy V3 (some mb)):=kA ⟨Ry.1,by rw[Ry.2];exact jq,BU,qy⟩;clear zJ Rx Ry J1 xx Zb k2 Ko ZS Hf jq KO c2 qy c3 J2 C3 BU b2 zZ jX xt HM HT HG Yc Kb Hr Dp;go_wp2;refine wp_region_held_drew (S:=λw'=>w'.cell? ⟨g,2,none⟩=some (.map (some mb))/\w'.cell? ⟨g15,0,none⟩=some (.int .i64 y)) oM (SA.out) (λhHeld=> ?_);refine tk 0 hHeld ?_;refine tk 1 hHeld ?_;refine tk 2 hHeld ?_;refine tk 3 hHeld ?_;refine tk 4 hHeld ?_;refine tk 5 hHeld ?_;refine tk 6 hHeld ?_;refine tk 7 hHeld ?_;refine rd 8 (λK hK=> ?_);go_simp;refine hK.out _ _ (SE.out) (λhHeld=> ?_);clear hK K;refine wpAnyH_done oM ?_ _;go_wp2;go_roundw
        case rel=>exact⟨k+1,q+1,by go_num,by go_num,om,HR.1,HR.2.1,HR.2.2.1,HR.2.2.2⟩
        case measure=>simp[ivl] <;> omega
      ·obtain rfl:k=nF:=om;have k2:¬(k:Int)<(k:Int):=om
       have Dn:Hid (MF sK13 wr mb (slM (fi.foldl za1 K))/\w.grownBy wr (some mb)):=kA ⟨by
        have h1:=HM.out;rw[take_of_length_le (by rw[VT.out,length_map,zN.out];exact Nat.le_refl _)]at h1
        exact h1,HG⟩
       go_wp2;go_end0;exact⟨rfl,Dn.1,Dn.2⟩
    ·have VV:Rg x:=(cJ x YN).2;have Y0:(x,s)∈K:=(znW qd).1 hs;have BW:Rg s:=by
      have:=(QG _ Y0).2;unfold Rg;simp only at this;omega
     have BZ:MFi kI w' tb T:=ht.same (qw.block _ YY (by intro e;injection e with e;exact Rm e))
     obtain⟨w2,Hf,Zb,Ko⟩:=BZ.put BW () (K.map Prod.snd) (λy hy=>by
      unfold upm at hy
      by_cases c:y=s
      ·rw[c];exact mem_map.2 ⟨_,Y0,rfl⟩
      ·rw[if_neg c]at hy;obtain⟨z,hz,_⟩:=(JV y).1 hy
       exact mem_map.2 ⟨_,hz,rfl⟩) (by rw[length_map];omega)
     have zQ:(Instr.mapUpdate 237 (.map (some tb)) (.int .i64 s) (.agg #[])).run prog w'= .ok () w2:=Hf;have qz:MRg sK13 w2 mb r (slM K) (λz=>left z && !z.sameKey (.int .i64 x)) cnt':=JW.kept Ko (by intro e;injection e with e;exact JS e.symm) (by intro e;injection e with e;exact Rm e.symm)
     have Rz:Hid (MRg sK13 w2 mb r (slM K) (λz=>left z && !z.sameKey (.int .i64 x)) cnt'/\(∀y,(left (.int .i64 y) && !(Lit.int .i64 y).sameKey (.int .i64 x))=true->(slM K y).isSome=true/\Rg y)/\MFi kI w2 tb (upm T s (some ()))/\TkS K (λz=>left z && !z.sameKey (.int .i64 x)) (upm T s (some ()))/\w.grownBy w2 (some mb)):=kA ⟨qz,λy hy=>cJ y (by rw[Bool.and_eq_true]at hy;exact hy.1),Zb,λm=>by
      unfold upm
      by_cases c:m=s
      ·rw[if_pos c,c];exact⟨λ_=>⟨x,Y0,by show (left _ && !(Lit.int .i64 x).sameKey (.int .i64 x))=false;rw[zij,decide_eq_true rfl];simp⟩,λ_=>rfl⟩
      ·rw[if_neg c,JV m];constructor
       ·rintro⟨z,hz,hl⟩;exact⟨z,hz,by show (left _ && _)=false;rw[hl];rfl⟩
       ·rintro⟨z,hz,hl⟩;refine⟨z,hz,?_⟩;have ZB:(left (.int .i64 z) && !(Lit.int .i64 z).sameKey (.int .i64 x))=false:=hl
        by_cases d:z=x
        ·subst d;have h1:=(znW qd).2 hz;rw[hs]at h1;injection h1 with h1;exact absurd h1.symm c
        ·rw[zij,decide_eq_false d]at ZB
         simpa using ZB,(hg.andThen qw (λj e=>by injection e with e;exact .inl om)).andThen Ko (λj e=>by injection e with e;exact .inl om)⟩
     have Y1:Hid (w2.rangeLeft mb r<wr.rangeLeft mb r):=kA (by rw[qz.left_eq,yv.left_eq];exact YF);clear yv cJ ht JV hg QH HL HT Rn HG JW qw Ro VV Y0 BW BZ Hf Zb Ko qz hs YN YF;go_wp2;go_roundw
     case rel=>exact⟨_,cnt',_,Rz⟩
     case measure=>exact Y1
structure LWE (FB:World->Nat->(Nat->Prop)->FD->Prop) (w W:World) (g gf mb:Nat) (F Ff:Nat->Prop) (vr:Value) (D:FD) (R:List Rc) (m:Int->Option Int) (since n:Int):Prop where
 blk:Blk W g 111 #[.pointer (some ⟨gf,0,none⟩),vr,.map (some mb),.int .i64 since,.int .i64 n]
 fl:FB W gf Ff D
 rc:OwnX 12 cRc 92 W 0 vr R
 mp:MF sK13 W mb m
 gF:¬Ff g
 mF:¬Ff mb
 mg:mb≠g
 rF:∀b,vr.ownBlock=some b->b≠g/\b≠mb/\¬Ff b
 fr:Fr w W F
 sub:∀b,zkM g Ff vr mb b->F b∨w.heap.size<=b
section
variable {FB:World->Nat->(Nat->Prop)->FD->Prop} {w W W':World} {g gf mb:Nat} {F Ff Kn:Nat->Prop} {vr GN:Value} {D D':FD} {R R':List Rc} {m m':Int->Option Int} {since since' n n':Int}
theorem LEx.lw(hC:FWE FB){E:XS}{w0:World}(h:LEx FB w0 g gf Ff vr mb E)(hF:∀b,F b↔zkM g Ff vr mb b)(hb:Bw w0 w):LWE FB w w g gf mb F Ff vr E.D E.R (slM E.S) E.since E.n:=by
 have k:=h.keep hC hb;exact⟨k.blk,k.fl,k.rc,k.mp,k.gF,k.mF,k.mg,k.rF,⟨rfl,rfl,rfl,Nat.le_refl _,λ_ _ _=>rfl⟩,λb c=>Or.inl ((hF b).2 c)⟩
theorem LWE.keep(hC:FWE FB)(h:LWE FB w W g gf mb F Ff vr D R m since n)(hb:Bw W W'):LWE FB w W' g gf mb F Ff vr D R m since n:=
 ⟨h.blk.keep hb,hC.keep h.fl hb,h.rc.keep hb,h.mp.keep hb,h.gF,h.mF,h.mg,h.rF,Fr.behind h.fr hb,h.sub⟩
theorem LWE.flow(h:LWE FB w W g gf mb F Ff vr D R m since n)(h1:FB W' gf Kn D')(h2:Fr W W' Ff)(h3:∀b,Kn b->Ff b∨W.heap.size<=b):LWE FB w W' g gf mb F Kn vr D' R m since n:=
 ⟨h.blk.same (h2.2.2.2.2 g h.blk.lt h.gF),h1,h.rc.same (λb e=>h2.2.2.2.2 b (h.rc.lt b e).2 (h.rF b e).2.2),h.mp.same (h2.2.2.2.2 mb h.mp.lt h.mF),λc=>(h3 g c).elim h.gF (λd=>by have:=h.blk.lt;omega),λc=>(h3 mb c).elim h.mF (λd=>by have:=h.mp.lt;omega),h.mg,
  λb e=>⟨(h.rF b e).1,(h.rF b e).2.1,λc=>(h3 b c).elim (h.rF b e).2.2 (λd=>by have:=(h.rc.lt b e).2;omega)⟩,Fr.two h.fr h2 (λx c=>h.sub x (.inr (.inl c))),λb c=>by
   rcases c with c | c | c | c
   ·exact h.sub b (.inl c)
   ·rcases h3 b c with d | d
    ·exact h.sub b (.inr (.inl d))
    ·exact .inr (Nat.le_trans h.fr.2.2.2.1 d)
   ·exact h.sub b (.inr (.inr (.inl c)))
   ·exact h.sub b (.inr (.inr (.inr c)))⟩
theorem LWE.frg(h:LWE FB w W g gf mb F Ff vr D R m since n){row:Option Nat}(k:W.grownBy W' row)(hr:∀b,row=some b->b=g∨b=mb):Fr w W' F:=
 Fr.two h.fr (F':=λb=>row=some b) ⟨k.os,k.tape,k.output,k.size,λb hb hn=>k.block b hb (λe=>hn e.symm)⟩ (λx c=>by
  rcases hr x c with e | e
  ·exact h.sub x (.inl e)
  ·exact h.sub x (.inr (.inr (.inr e))))
theorem LWE.other(hC:FWE FB)(h:LWE FB w W g gf mb F Ff vr D R m since n){i:Nat}{u:Value}:FB (W.setCell ⟨g,i,none⟩ u) gf Ff D/\OwnX 12 cRc 92 (W.setCell ⟨g,i,none⟩ u) 0 vr R/\MF sK13 (W.setCell ⟨g,i,none⟩ u) mb m:=by
 have k:=zaT W g i u;exact⟨hC.keep_ _ _ _ _ _ h.fl (λb c=>k.block b (hC.inb _ _ _ _ h.fl b c) (by intro e;injection e with e;rw[e]at c;exact h.gF c)),h.rc.same (λb e=>k.block b (h.rc.lt b e).2 (by intro q;injection q with q;exact (h.rF b e).1 q)),h.mp.same (k.block _ h.mp.lt (by intro e;injection e with e;exact h.mg e))⟩
theorem LWE.setN(hC:FWE FB)(h:LWE FB w W g gf mb F Ff vr D R m since n)(n':Int):LWE FB w (W.setCell ⟨g,4,none⟩ (.int .i64 n')) g gf mb F Ff vr D R m since n':=
 ⟨h.blk.set_ 4 _,(h.other hC).1,(h.other hC).2.1,(h.other hC).2.2,h.gF,h.mF,h.mg,h.rF,h.frg (zaT W g 4 _) (λb e=>by injection e with e;exact .inl e.symm),h.sub⟩
theorem LWE.setT(hC:FWE FB)(h:LWE FB w W g gf mb F Ff vr D R m since n)(t:Int):LWE FB w (W.setCell ⟨g,3,none⟩ (.int .i64 t)) g gf mb F Ff vr D R m t n:=
 ⟨h.blk.set_ 3 _,(h.other hC).1,(h.other hC).2.1,(h.other hC).2.2,h.gF,h.mF,h.mg,h.rF,h.frg (zaT W g 3 _) (λb e=>by injection e with e;exact .inl e.symm),h.sub⟩
theorem LWE.setR(hC:FWE FB)(h:LWE FB w W g gf mb F Ff vr D R m since n){base:Nat}{v':Value}(ho:OwnX 12 cRc 92 W base v' R')(h1:∀b,Ff b->b<base)(h2:g<base)(h3:mb<base)(h4:w.heap.size<=base):LWE FB w (W.setCell ⟨g,1,none⟩ v') g gf mb F Ff v' D R' m since n:=
 ⟨h.blk.set_ 1 _,(h.other hC).1,(ho.same (λb e=>(zaT W g 1 v').block b (ho.lt b e).2 (by intro q;injection q with q;have:=(ho.lt b e).1;omega))).low (zero_le _),(h.other hC).2.2,h.gF,h.mF,h.mg,λb e=>by
   have h5:=(ho.lt b e).1;exact⟨om,om,λc=>by have:=h1 b c;omega⟩,h.frg (zaT W g 1 _) (λb e=>by injection e with e;exact .inl e.symm),λb c=>by
   rcases c with c | c | c | c
   ·exact h.sub b (.inl c)
   ·exact h.sub b (.inr (.inl c))
   ·exact .inr (Nat.le_trans h4 (ho.lt b c).1)
   ·exact h.sub b (.inr (.inr (.inr c)))⟩
theorem LWE.setM(hC:FWE FB)(h:LWE FB w W g gf mb F Ff vr D R m since n)(k:W.grownBy W' (some mb))(hm:MF sK13 W' mb m'):LWE FB w W' g gf mb F Ff vr D R m' since n:=
 ⟨h.blk.same (k.block g h.blk.lt (by intro e;injection e with e;exact h.mg e.symm)),hC.keep_ _ _ _ _ _ h.fl (λb c=>k.block b (hC.inb _ _ _ _ h.fl b c) (by intro e;injection e with e;rw[e]at c;exact h.mF c)),h.rc.same (λb e=>k.block b (h.rc.lt b e).2 (by intro q;injection q with q;exact (h.rF b e).2.1 q)),hm,h.gF,h.mF,h.mg,h.rF,h.frg k (λb e=>by injection e with e;exact .inr e.symm),h.sub⟩
theorem LWE.done(h:LWE FB w W g gf mb F Ff vr D R m since n){w0:World}(hb:Bw w0 w){E:XS}(e1:E.D=D)(e2:E.R=R)(e3:slM E.S=m)(e4:E.since=since)(e5:(E.n:Int)=n):ChB (LEB FB) w0 W g F E:=by
 subst e1 e2 e3 e4 e5;exact⟨zkM g Ff vr mb,⟨gf,Ff,vr,mb,⟨h.blk,h.fl,h.rc,h.mp,h.gF,h.mF,h.mg,h.rF⟩,λ_=>Iff.rfl⟩,Fr.after hb h.fr,λb c=>(h.sub b c).imp id (λd=>Nat.le_trans hb.size d)⟩
theorem LWE.reads(h:LWE FB w W g gf mb F Ff vr D R m since n):W.cell? ⟨g,0,none⟩=some (.pointer (some ⟨gf,0,none⟩))/\W.cell? ⟨g,1,none⟩=some vr/\W.cell? ⟨g,2,none⟩=some (.map (some mb))/\W.cell? ⟨g,3,none⟩=some (.int .i64 since)/\W.cell? ⟨g,4,none⟩=some (.int .i64 n)/\g<W.heap.size:=⟨h.blk.cell 0,h.blk.cell 1,h.blk.cell 2,h.blk.cell 3,h.blk.cell 4,h.blk.lt⟩
end
theorem zAA(g n cap:Nat)(X:List Rc)(w:World)(hX:MR 12 cRc 92 w g X)(hn:X.length=n)(Hy:n<=19):
  Calls prog 266 #[.slice (some ⟨g,0,none⟩) n cap,.int .i64 n,.func (.func 222) #[] #[]] w λe w'=>e= .returned (.tuple #[])/\∃Y,DR w 92 g w' Y/\SStep Rc.id X Y 0 n/\AscIn Rc.id Y 0 n:=by
 have HI:Hid (Calls prog 293 #[.slice (some ⟨g,0,none⟩) n cap,.int .i64 0,.int .i64 n,.func (.func 222) #[] #[]] w λe w'=>e= .returned (.tuple #[])/\∃Y,DR w 92 g w' Y/\SStep Rc.id X Y 0 n/\AscIn Rc.id Y 0 n):=kA (zxe g n cap 0 n X w hX hn om (zero_le _) (Nat.le_refl _));have h1:¬(20:Int)<=(n:Int):=om;have h2:¬(20:Int)<(n:Int):=om;clear hX hn;go_enter func266,ntmps266;go_wp2;refine wp_loop_rounds 1 ?_;rw[rounds_succ];go_wp2_with fail;refine HI.mono ?_;rintro e w1 ⟨rfl,Y,hd,hs,ha⟩;have HR:=kA (And.intro hd (And.intro hs ha));clear hd hs ha;go_wp2;refine wp_loop_rounds 1 ?_;rw[rounds_succ];go_wp2;go_end0;exact⟨rfl,Y,HR⟩
theorem zzj(g n cap:Nat)(X:List Rc)(w:World)(hX:MR 12 cRc 92 w g X)(hn:X.length=n)(Hy:n<=19):
  Calls prog 221 #[.slice (some ⟨g,0,none⟩) n cap,.func (.func 222) #[] #[]] w λe w'=>e= .returned (.tuple #[])/\∃Y,DR w 92 g w' Y/\Y.length=n/\Fil Rc.id X Y/\Asc Rc.id Y:=by
 have HS:=kA (zAA g n cap X w hX hn Hy);have HL:=kA hn;clear hX hn;go_enter func221,ntmps221;go_wp2_with fail;refine HS.mono ?_;rintro e w1 ⟨rfl,Y,hd,hs,ha⟩;have HD:=kA hd;have HR:=kA (And.intro (hs.len.trans HL) (And.intro hs.fil (AscIn.all (by rw[hs.len,HL.out];exact ha))));clear hd hs ha;go_wp2;go_end0;exact⟨rfl,Y,HD.out,HR⟩
theorem zAB(av:Option Addr)(n cap:Nat)(X:List Rc)(w:World)(row:zbz w av n X)(hn:n<=19):
  Calls prog 140 #[.slice av n cap] w λe w'=>∃a' m cap' F,e= .returned (.slice a' m cap')/\zbz w' a' m F/\m<=cap'/\cap'<=maxLen/\m<=n/\zdy F/\(∀k,look k F=look k X.reverse)/\Bw w w':=by
 have kJ:=kA row.1;have Cz:=kA (zkv av n cap X w row om);clear row;go_enter func140,ntmps140;go_wp2_with fail;refine Cz.mono ?_;rintro e w1 ⟨v,rfl,ho,hb⟩;have HB:=kA hb;clear hb Cz;rcases eq_zero_or_pos n with rfl | hpos
 ·have hX:X=[]:=eq_nil_of_length_eq_zero kJ;subst hX;obtain⟨a,c,rfl,hc,KD,hr⟩:=ho.row zaz;have HR:=kA (And.intro hr KD);clear ho hr KD;rw[length_nil]at HR ⊢;go_wp2_with fail;refine (zt1 a c w1).mono ?_;rintro e w2 ⟨rfl,rfl⟩;go_wp2_with fail;refine (zru a c w1).mono ?_;rintro e w2 ⟨rfl,rfl⟩;go_wp2_with fail;refine (zrx a c _ w1).mono ?_;rintro e w2 ⟨rfl,rfl⟩;go_wp2;go_ret;exact⟨a,0,c,[],rfl,HR.1,zero_le _,HR.2,Nat.le_refl _,List.Pairwise.nil,λk=>rfl,HB⟩
 ·obtain⟨g,c,rfl,hg,hc,KD,hm⟩:=ho.mr (by rw[kJ.out];exact hpos);rw[kJ.out]at hc ⊢;have DK:=kA (zxd g n c X w1 hm kJ om);have HG:=kA hg;clear ho hm hg;go_wp2_with fail;refine DK.mono ?_;rintro e w2 ⟨rfl,hd⟩;have HD:=kA hd;have Dl:=kA (zzj g n c X.reverse w2 hd.1 (by rw[length_reverse];exact kJ) hn);clear hd DK;go_wp2_with fail;refine Dl.mono ?_;rintro e w3 ⟨rfl,Y,hd,hl,hf,ha⟩;have dZ:=kA (HD.next hd);have HY:=kA (And.intro hl (And.intro hf ha));have yL:=kA (zt5 g n c Y w3 hd.1 hl om hpos hc KD);clear hd hl hf ha Dl HD;go_wp2_with fail;refine yL.mono ?_;rintro e w4 ⟨m,rfl,hl,hd⟩;have B4:=kA (dZ.next hd);have HM:=kA hl;clear hd hl yL dZ;go_wp2;go_ret;obtain⟨y1,y2,y3⟩:=HY;obtain⟨r1,_,r3⟩:=zrv y3 n om;have kh:=zi4 Y n om;refine⟨_,m,c,zbc Y n,rfl,?_,by rw[<-HM.out];omega,KD,by rw[<-HM.out];omega,r1,λk=> ?_,?_⟩
  ·rw[<-HM.out];exact B4.1.row om
  ·rw[r3,take_of_length_le om];exact zt2 y2 k
  ·exact zaP HB B4.2 (λb e=>by injection e with e;rw[<-e];exact HG)
theorem zuP(aL:Option Addr)(nL cL:Nat)(L:List Rc)(aX:Option Addr)(nX cX:Nat)(X:List Rc)(w:World)(rL:zbz w aL nL L)(rX:zbz w aX nX X)(ef:nL<=cL)(em:cL<=maxLen)(hL:zdy L)(hn:nX+nL<=2000)(hx:nX<=19):
  Calls prog 76 #[.slice aL nL cL,.slice aX nX cX] w λe w'=>∃v R,e= .returned v/\zvC w w' nX nL v L X R/\Bw w w':=by
 have DD:=kA (zAB aX nX cX X w rX om);have HR:=kA rL;have HL:=kA hL;clear rX rL hL;go_enter func76,ntmps76;go_wp2_with fail;refine DD.mono ?_;rintro e w1 ⟨a1,m,c1,F,rfl,hr,hm,KD,Q2,Qj,Kz,hb⟩;have HB:=kA hb;have D5:=kA Kz;have B5:=kA (zxj a1 m c1 F aL nL cL L w1 hr (HR.keep hb) hm KD ef em Qj HL om);clear hr hm KD Qj Kz hb DD;go_wp2_with fail;refine B5.mono ?_;rintro e w2 ⟨v,R,rfl,ho,hl,hr,hk,hb⟩;have HA:Hid (zvC w w2 nX nL v L X R/\Bw w w2):=kA ⟨⟨ho.low HB.size,om,hr,λk=>by rw[hk k,D5 k]⟩,zad HB hb⟩;clear ho hl hr hk hb B5;go_wp2;go_ret;exact⟨v,R,rfl,HA⟩
end Go.Proofs.YtlibdcmcbinfnaaGreat
