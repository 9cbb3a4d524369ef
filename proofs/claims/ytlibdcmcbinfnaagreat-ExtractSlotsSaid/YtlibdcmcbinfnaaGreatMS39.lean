/- Lemmas. -/
import Derived.Test.YtlibdcmcbinfnaaGreatMS36
import Derived.Test.YtlibdcmcbinfnaaGreatMS38
set_option maxHeartbeats 100000000
set_option maxRecDepth 1000000
set_option linter.unusedVariables false
namespace Go.Proofs.YtlibdcmcbinfnaaGreat
open _root_.Go.Proofs.Tryz List Nat
open Go.RowKit
variable{w0 w W:World}{g gs n cap:Nat}{F Fs:Nat->Prop}{X:Sc}{E:XS}{o:Int->Option Rc}{zs:List Int}{y:Int}{eo:Int->Int}{a:Option Addr}{cs:List Value}
theorem ChB.step{α:Type}{B:World->Nat->(Nat->Prop)->α->Prop}{b0:Nat}{w1 w2:World}{x:α}(h:ChB B w1 w2 g F x)(hb:Below b0 w0 w1)(hF:∀b,F b->b0<=b)(hs:b0<=w1.heap.size):∃F',B w2 g F' x/\Below b0 w0 w2/\(∀b,F' b->b0<=b)/\b0<=w2.heap.size:=by
 obtain⟨F',h1,h2,h3⟩:=h;exact⟨F',h1,Fr.below h2 hb hF hs,λb hb=>(h3 b hb).elim (λc=>hF b c) (λc=>Nat.le_trans hs c),Nat.le_trans hs h2.2.2.2.1⟩
structure N15 (Y:List Value):Prop where
 nx:NXs Y 205
 c1:Y[1]? =some (.int .i64 (-1))
 c2:Y[2]? =some (.int .i64 65536)
 mO:Y[14]? =some (.bool true)
theorem GoU.sp{S:St}(h:GoU S)(P:PT):GoU (spS S P):=h.same (h.1.sp _) (by unfold spS;split <;> rfl)
theorem SX3.sp(h:SX3 X)(P:PT)(p:Int):SX3 (zez X P p):=⟨h.first.sp P p,by unfold zez;split;exact h.go;exact h.go.sp P,by unfold zez;split;exact h.marks;exact h.marks.sp P⟩
theorem SX3.de(h:SX3 X)(id:Int):SX3 (zfO X id):=⟨h.first.de id,by
 unfold zfO
 split
 ·have h1:=h.go.de h.wx.ws id;exact h1.same (GoN.to _ h1.1) (zhi _ _)
 ·exact h.go,by
 unfold zfO
 split
 ·exact NowOk.to _ (h.marks.de _)
 ·exact h.marks⟩
theorem EOk.de(h:EOk X E)(id:Int):EOk (zfO X id) E:=h.imp (λq=>q) (λ⟨X0,a,b,c,d,r⟩=>⟨X0,a,b,c,d.de id,r⟩)
theorem zxy{R:List Rc}(ho:∀x r,o x=some r->r.id=x)(hz:zs.Pairwise (·<·))(hR:∀k∈R.map Rc.id,k∈zs):Wk o R zs (zs.filterMap o):=
 ⟨zdn ho hz,λk=>by
  rw[zie ho hz]
  by_cases c:k∈zs
  ·rw[if_pos c,if_pos c]
  ·rw[if_neg c,if_neg c]
   cases e:look k R with
   | none=>rfl
   | some r=>exact absurd (hR k (zd7.1 (by rw[e];rfl))) c⟩
theorem zhp(hn:zaZ X E=zs)(hz:zs.Pairwise (·<·))(h0:zey (zaI X E.D E.since)=0)(h1:zbp (eX X (zaI X E.D E.since).L) zs=0)(hR:∀k∈E.R.map Rc.id,k∈zs):
  Synced X E zs 0 ⟨zc4 (zaI X E.D E.since),zs.filterMap (oX X (zaI X E.D E.since).L),zcN ((zs.filterMap (oX X (zaI X E.D E.since).L)).map Rc.id) E.S,X.S.now,E.n+zs.length⟩:=by
 subst hn;exact .inr (.inr ⟨h0,h1,rfl,rfl,_,zxy (λ_ _ q=>zkt q) hz hR,rfl⟩)
theorem zkK(hn:zaZ X E=[])(h0:zey (zaI X E.D E.since)=0)(hR:zdp E.R):Synced X E [] 0 ⟨zc4 (zaI X E.D E.since),E.R,zcN (E.R.map Rc.id) E.S,X.S.now,E.n⟩:=
 .inr (.inr ⟨h0,by rw[hn];rfl,hn.symm,rfl,E.R,by rw[hn];exact Wk.nil hR,by rw[hn];rfl⟩)
def m13:Nat->Int:=λi=>if i=3 then 5 else if i=0∨i=5∨i=10 then 65536 else 0
def q13:PT:=(7,m13,2,zI,0,0,false,0)
def zxz:Sc:=Sc0 9
def zvC:Sc:=zez zxz q13 (-1)
def x132:Sc:=zez zvC q13 0
def x133:Sc:=zfY x132
def x134:Sc:=zfY x133
def x135:Sc:=zfO x134 0
def d131:FD:=zaI x132 FD0 0
def r131:List Rc:=[0,1].filterMap (oX x132 d131.L)
def e131:XS:=⟨zc4 d131,r131,zcN (r131.map Rc.id) [],1,2⟩
def d132:FD:=zaI x133 e131.D e131.since
def e132:XS:=⟨zc4 d132,r131,zcN (r131.map Rc.id) e131.S,2,2⟩
def d133:FD:=zaI x135 e132.D e132.since
def r133:List Rc:=[0,1].filterMap (oX x135 d133.L)
def e133:XS:=⟨zc4 d133,r133,zcN (r133.map Rc.id) e132.S,3,4⟩
theorem t131:znj zxz q13 (-1)=0/\zni zxz q13 (-1)=0:=by decide+kernel
theorem t132:znj zvC q13 0=1/\zni zvC q13 0=0:=by decide+kernel
theorem zAl:zaZ x132 XS0=[0,1]/\zey d131=0/\zbp (eX x132 d131.L) [0,1]=0:=by decide+kernel
theorem t134:zaZ x133 e131=[]/\zey d132=0:=by decide+kernel
theorem t135:deE x134.S 0=0:=by decide+kernel
theorem zzt:zaZ x135 e132=[0,1]/\zey d133=0/\zbp (eX x135 d133.L) [0,1]=0/\(∀k∈e132.R.map Rc.id,k∈([0,1]:List Int)):=by decide+kernel
theorem zAm:r133.map (λr=>(r.id,r.x3))=[(1,5)]/\zau e133.S 1=1/\zau e133.S 0= -1:=by decide+kernel
theorem t138:x132.S.now=1/\x133.S.now=2/\x135.S.now=3:=by decide+kernel
theorem zAn:([0,1]:List Int).Pairwise (·<·):=by decide
theorem y131:Synced x132 XS0 [0,1] 0 e131:=zhp (E:=XS0) zAl.1 zAn zAl.2.1 zAl.2.2 (λk h=>by cases h)
theorem zxA:zdp r131:=zdn (λ_ _ q=>zkt q) zAn
theorem y132:Synced x133 e131 [] 0 e132:=by
 have h:=zkK (X:=x133) (E:=e131) t134.1 t134.2 zxA;rw[t138.2.1]at h;exact h
theorem y133:Synced x135 e132 [0,1] 0 e133:=by
 have h:=zhp (X:=x135) (E:=e132) zzt.1 zAn zzt.2.1 zzt.2.2.1 zzt.2.2.2;rw[t138.2.2]at h;exact h
theorem z132:SX3 x132:=((SX3.zero om).sp _ _).sp _ _
theorem z133:SX3 x133:=z132.ne
theorem z134:SX3 x134:=z133.ne
theorem z135:SX3 x135:=z134.de 0
theorem zAo:x132.S.room<=19/\x133.S.room<=19/\x135.S.room<=19:=of_decide_eq_true oM
theorem b130:BSc zxz 0:=BSc.zero om
theorem b131:BSc zvC 2:=b130.sp _ _
theorem b132:BSc x132 4:=b131.sp _ _
theorem b133:BSc x133 6:=b132.ne
theorem b134:BSc x134 8:=b133.ne
theorem b135:BSc x135 10:=b134.de z134.wx _
theorem zzu:EOk x132 XS0:=Or.inl ⟨0,rfl⟩
theorem zzv:EOk x133 e131:=y131.next z132 zzu
theorem k133:EOk x134 e132:=y132.next z133 zzv
theorem k134:EOk x135 e132:=k133.de 0
theorem k135:EOk (zfY x135) e133:=y133.next z135 k134
theorem s130:EBd XS0 0:=⟨Nat.le_refl _,Nat.le_refl _⟩
theorem s131:EBd e131 1:=y131.bd z132 zzu (b132.mono om) s130
theorem s132:EBd e132 2:=y132.bd z133 zzv (b133.mono om) s131
theorem l131:∀p∈e131.S,p.2<9:=y131.below (m:=9) z132 zzu (by decide+kernel) (λp h=>by cases h)
theorem l132:∀p∈e132.S,p.2<9:=y132.below (m:=9) z133 zzv (by decide+kernel) l131
structure Du (EB:World->Nat->(Nat->Prop)->XS->Prop) (XB:World->Nat->(Nat->Prop)->Sc->Prop) (w0 W:World) (g gs:Nat) (F Fs:Nat->Prop) (E:XS) (X:Sc):Prop where
 eb:EB W g F E
 xb:XB W gs Fs X
 ap:∀b,F b->¬Fs b
 be:Bw w0 W
 f0:∀b,F b->w0.heap.size<=b
 f1:∀b,Fs b->w0.heap.size<=b
section
variable {EB:World->Nat->(Nat->Prop)->XS->Prop} {XB:World->Nat->(Nat->Prop)->Sc->Prop} {w0 W W':World} {g gs:Nat} {F Fs:Nat->Prop} {E E':XS} {X X':Sc}
theorem Du.keep(kE:KB EB)(kX:KB XB)(h:Du EB XB w0 W g gs F Fs E X)(hb:Bw W W'):Du EB XB w0 W' g gs F Fs E X:=⟨kE.keep h.eb hb,kX.keep h.xb hb,h.ap,zad h.be hb,h.f0,h.f1⟩
theorem Du.sc(kE:KB EB)(h:Du EB XB w0 W g gs F Fs E X)(hc:ChB XB W W' gs Fs X'):∃Sp,Du EB XB w0 W' g gs F Sp E X'/\(∀b,Sp b->Fs b∨W.heap.size<=b)/\Fr W W' Fs:=by
 obtain⟨Sp,h1,h2,h3⟩:=hc;have hi:=kE.inb _ _ _ _ h.eb;exact⟨Sp,⟨kE.keep_ _ _ _ _ _ h.eb (λb c=>h2.2.2.2.2 b (hi b c) (h.ap b c)),h1,λb c d=>(h3 b d).elim (h.ap b c) (λz=>by have:=hi b c;omega),Fr.below h2 h.be h.f1 h.be.size,h.f0,λb c=>(h3 b c).elim (h.f1 b) (λz=>Nat.le_trans h.be.size z)⟩,h3,h2⟩
theorem Du.sy(h:Du EB XB w0 W g gs F Fs E X)(hc:SyR EB XB W W' g gs F Fs E' X'):∃F' Sp,Du EB XB w0 W' g gs F' Sp E' X'/\(∀b,F' b->F b∨W.heap.size<=b)/\(∀b,Sp b->Fs b∨W.heap.size<=b)/\Fr W W' (λb=>F b∨Fs b):=by
 obtain⟨F',Sp,h1,h2,h3,h4,h5,h6⟩:=hc;exact⟨F',Sp,⟨h1,h2,h6,Fr.below h3 h.be (λb c=>c.elim (h.f0 b) (h.f1 b)) h.be.size,λb c=>(h4 b c).elim (h.f0 b) (λz=>Nat.le_trans h.be.size z),λb c=>(h5 b c).elim (h.f1 b) (λz=>Nat.le_trans h.be.size z)⟩,h4,h5,h3⟩
end
section
variable {XB:World->Nat->(Nat->Prop)->Sc->Prop}
structure R11 (XB:World->Nat->(Nat->Prop)->Sc->Prop) (w:World) (g m:Nat) (v8 v9:Value) (since:Int) (wr:World) (F:Nat->Prop) (X I0:Sc):Prop where
 was:OwnX 15 cNd 205 wr w.heap.size v8 ((alS I0.S).map (zaS I0))
 had:OwnX 24 pl 52 wr w.heap.size v9 ((alS I0.S).map (zby I0.S))
 ow:∀b,v8.ownBlock=some b->¬F b
 oh:∀b,v9.ownBlock=some b->¬F b
 sb:XB wr g F X
 wx:WX I0
 told:ToldX (λx P=>inS I0.S x P) (zak I0.L) since X
 bd:BSc X m
 bel:Bw w wr
 zgP:∀b,F b->w.heap.size<=b
end
theorem zuC:(prog.info? 205).map (λi=>(i.zero,i.size,i.bytes))=some (some (.agg (cNd default).toArray),15,120):=oM
theorem zuD(n:Nd)(W:World):(Instr.buildSlice 150 1 #[(0,.agg (cNd n).toArray)]).run prog W= .ok (.slice (some ⟨W.heap.size,0,none⟩) 1 1) (W.alloc (.cells (cNd n).toArray 205)):=oM
section
variable {XB:World->Nat->(Nat->Prop)->Sc->Prop}
structure Two (XB:World->Nat->(Nat->Prop)->Sc->Prop) (w4 W:World) (g:Nat) (F:Nat->Prop) (X:Sc) (v8 v9:Value) (L8:List Nd) (L9:List PT):Prop where
 o8:OwnX 15 cNd 205 W w4.heap.size v8 L8
 o9:OwnX 24 pl 52 W w4.heap.size v9 L9
 ne:∀b,v8.ownBlock=some b->v9.ownBlock≠some b
 sb:XB W g F X
 bel:Bw w4 W
 lo:∀b,F b->b<w4.heap.size
structure N11 (XB:World->Nat->(Nat->Prop)->Sc->Prop) (w:World) (g m:Nat) (nw:Int) (wr:World) (F:Nat->Prop) (X:Sc):Prop where
 sb:XB wr g F X
 wx:WX X
 told:ToldX (λx P=>inS X.S x P) (zak X.L) nw X
 bd:BSc X m
 bel:Bw w wr
 zgP:∀b,F b->w.heap.size<=b
theorem zuE{α:Type}{f:Int->α}{L:List Int}{q:Nat}(h:L[q]? =some y):(L.map f).take (q+1)=(L.map f).take q++[f y]:=by
 rw[take_add_one,getElem?_map,h];rfl
end
section
variable {XB:World->Nat->(Nat->Prop)->Sc->Prop}
theorem zAp{since:Int}(hy:y∈chL X.S since):Rg y:=zdk (zeI.1 hy).1
theorem zvD(S:St)(since:Int):(chL S since).length<=S.ch.length:=by
 unfold chL;rw[zf9,length_map];exact length_filter_le _ _
theorem zmh(hX:XC XB){w:World}{g:Nat}{F:Nat->Prop}{X:Sc}(sb:XB w g F X)(hW:WX X)(hB:BSc X 900)(since:Int):
  Calls prog 71 #[.pointer (some ⟨g,0,none⟩),.int .i64 since] w λe w'=>∃v,e= .returned v/\OwnX 15 cNd 205 w' w.heap.size v ((chL X.S since).map (zaS X))/\Bw w w':=by
 have Hw:=kA (hX.changed w g F X since hW hB sb)
 have Hm:Hid (∀W y,Bw w W->y∈chL X.S since->Calls prog 128 #[.pointer (some ⟨g,0,none⟩),.int .i64 y] W λe w'=>∃Z,e= .returned (.tuple #[.agg (toArray Z),.bool true])/\Z=cNd (zaS X y)/\Bw W w'):=kA (λW y q hy=>by
  have h1:=hX.node W g F X y hW hB (hX.kb.keep sb q) (zAp hy);rw[show zcF X.S y=true from by rw[<-zdV hW.ws];exact (zeI.1 hy).1]at h1
  exact h1)
 have C4:(chL X.S since).length<=900:=by
  have:=zvD X.S since;have:=hB.1;omega
 obtain⟨zs,Di⟩:∃zs,zs=chL X.S since:=⟨_,rfl⟩;rw[<-Di]at Hw Hm C4 ⊢;obtain⟨n,hn⟩:∃n,n=zs.length:=⟨_,rfl⟩;have kG:=kA hn;rw[<-hn]at C4;obtain⟨nf,Zq⟩:∃nf,nf=zaS X:=⟨_,rfl⟩;rw[<-Zq]at Hm ⊢;clear Di sb hB Zq hX;go_enter func71,ntmps71;go_wp2_with fail;refine Hw.mono ?_;rintro e w1 ⟨v,rfl,⟨ia,icap,rfl,irow,-⟩,b1⟩;have Qo:=kA irow;have Hk:=kA b1;clear irow b1 Hw;rw[<-hn]at Qo ⊢;clear hn;go_wp2
 go_loopw [5,7,8,9,14] (λv5 _ _ _ Sr wr=>∃j:Nat,Sr= .int .i64 j/\j<=n/\OwnX 15 cNd 205 wr w1.heap.size v5 ((zs.map nf).take j)/\Bw w1 wr) (λ_ _ _ _ Sr _=>n - (intOf Sr).toNat)
 case atStart=>exact⟨0,rfl,om,OwnX.nil _ _ _ _ _,Below.refl _ _⟩
 case round=>
  obtain⟨j,rfl,hj,ho,hb⟩:=hrel;have HO:=kA ho;have HB:=kA hb;clear ho hb
  by_cases hlt:j<n
  ·have j0:(0:Int)<=(j:Int):=om;have j1:(j:Int)<(n:Int):=om;obtain⟨ib,ioff,y,rfl,hy,cy⟩:=zch (zar Qo HB) hlt;have Qp:=World.block_lt_of_cell? _ _ cy;have HS:=kA (zuE (f:=nf) hy);have Rx:y∈zs:=mem_of_getElem? hy;have Vs:Hid (∀W,Bw w W->Calls prog 128 #[.pointer (some ⟨g,0,none⟩),.int .i64 y] W λe w'=>∃Z,e= .returned (.tuple #[.agg (toArray Z),.bool true])/\Z=cNd (nf y)/\Bw W w'):=kA (λW q=>Hm.out W y q Rx);have Y4:((zs.map nf).take j).length<=2000:=by rw[length_take];omega
   have Vt:=kA (zad Hk HB);have YO:=Vt.size;obtain⟨L8,Qq⟩:∃L,L=(zs.map nf).take j:=⟨_,rfl⟩;rw[<-Qq]at HO HS Y4;obtain⟨nd,XE⟩:∃nd,nd=nf y:=⟨_,rfl⟩;rw[<-XE]at Vs HS;clear Qq XE hy Rx;go_wp2_with fail;refine (Vs _ Vt).mono ?_;rintro e w5 ⟨Z,rfl,hZ,b5⟩;have HZ:=kA hZ;have Zr:Hid (NXs Z 205):=kA (by rw[hZ];exact zji nd);have Qr:Hid (∀W,(Instr.buildSlice 150 1 #[(0,.agg Z.toArray)]).run prog W= .ok (.slice (some ⟨W.heap.size,0,none⟩) 1 1) (W.alloc (.cells Z.toArray 205))):=kA (by rw[hZ];exact zuD nd);have H9:Bw w5 ((w5.alloc (.cells (cNd n0d).toArray 205)).setCells w5.heap.size 0 Z):=zab Z (zaa _ _) (Nat.le_refl _);have Qs:Hid ((w5.alloc (.cells (cNd n0d).toArray 205)).there w5.heap.size 0 Z.toArray.size):=kA (zae (Blk.new w5 _ _) (by rw[size_toArray,Zr.len];exact Nat.le_refl 15));have Qt:Hid (Blk ((w5.alloc (.cells (cNd n0d).toArray 205)).setCells w5.heap.size 0 Z) w5.heap.size 205 Z.toArray/\OwnX 15 cNd 205 ((w5.alloc (.cells (cNd n0d).toArray 205)).setCells w5.heap.size 0 Z) w1.heap.size u5 L8/\Bw w1 ((w5.alloc (.cells (cNd n0d).toArray 205)).setCells w5.heap.size 0 Z)):=kA ⟨zal (Blk.new w5 _ _) (by rw[Zr.len];rfl),HO.keep (zad b5 H9),zad HB (zad b5 H9)⟩;have xk:Hid (∀c,u5.ownBlock=some c->c<w5.heap.size):=kA (λc e=>Nat.lt_of_lt_of_le (HO.lt c e).2 b5.size);clear hZ b5 H9 cy Qp Vs HO HB Vt;go_upto_region 6 with (refine wpList_store_mid rfl 205 (.tmp 8) (.tmp 22) rfl w5.heap.size 0 Z.toArray rfl rfl Qs Zr.sizea Zr.onea ?_);refine fin (λW=>Blk W w5.heap.size 205 Z.toArray/\OwnX 15 cNd 205 W w1.heap.size u5 L8/\Bw w1 W) Qt ?_;clear Qt Qs;obtain⟨g14,Qu⟩:∃g,g=w5.heap.size:=⟨_,rfl⟩;rw[<-Qu]at xk ⊢;rintro W6 ⟨Vu,ho,hb⟩;have Ry:=kA Vu;have HO:=kA ho;have HB:=kA hb;have BI:=Vu.lt;have NM:w1.heap.size<=W6.heap.size:=hb.size;clear Vu ho hb Qu xk
   go_wp2_with (first
    | refine wpList_load_mid rfl 205 (.tmp 8) rfl g14 0 rfl Z _ (zac Ry) underlying205 rfl Zr.size ?_
    | refine zfp rfl 150 205 (.tmp 26) rfl Z rfl Qr ?_
    | (at_builtin;refine zbu rfl (.tmp 25) (.tmp 27) 150 120 (.agg (cNd default).toArray) rfl underlying150 zuC rfl (by decide) (by decide) zfq nd (zlF nd) rfl (HO.keep (zaa _ _)) W6.heap.size 1 rfl (by rw[<-HZ.out];exact zac (Blk.new W6 _ _)) om (by simp;omega) ?_))
   intro Sq W7 k1 k2 k3;have Hf:Bw W6 (W6.alloc (.cells Z.toArray 205)):=zaa _ _;have K:Hid (OwnX 15 cNd 205 W7 w1.heap.size Sq ((zs.map nf).take (j+1))/\Bw w1 W7):=kA ⟨by rw[HS.out];exact k1,zaO (zad HB Hf) k2 (λb e=>(HO.lt b e).1)⟩;clear k1 k2 k3 Hf HO HB Ry HS HZ Zr Qr;go_wp2;go_roundw
   case rel=>exact⟨j+1,by go_num,om,K.1,K.2⟩
   case measure=>simp[intOf] <;> omega
  ·obtain rfl:j=n:=om;have j2:¬(j:Int)<(j:Int):=om
   have HF:Hid (OwnX 15 cNd 205 wr w.heap.size u5 (zs.map nf)/\Bw w wr):=kA ⟨by
    have q:=HO.low Hk.size;rw[take_of_length_le (by rw[length_map];have:=kG.out;omega)]at q
    exact q,zad Hk HB⟩
   go_wp2;go_ret;exact⟨u5,rfl,HF.1,HF.2⟩
end
structure AXs (X:List Value) (T:TypeId) (k:Nat):Prop where
 len:X.length=k
 size:(prog.info? T).map (·.size)=some X.length
 sizea:(prog.info? T).map (·.size)=some X.toArray.size
 onea:X.toArray.all (·.oneCell')=true
theorem znS(P:PT):AXs (pl P) 52 24:=⟨zcu _,zaJ _,zbL _,zc8 _⟩
theorem zuF(M:Nat->Int)(s:Bool):AXs (lS M s) 228 13:=⟨rfl,oM,oM,zyR M s⟩
theorem zza(r:Rc):AXs (cRc r) 92 12:=⟨rfl,zaN r,by rw[size_toArray];exact zaN r,zb2 r⟩
theorem zxB(r:Rc)(W:World):(Instr.buildSlice 85 1 #[(0,.agg (cRc r).toArray)]).run prog W= .ok (.slice (some ⟨W.heap.size,0,none⟩) 1 1) (W.alloc (.cells (cRc r).toArray 92)):=zrv r W
theorem zoY{j:Nat}{x:Int}(hx:zs[j]? =some x)(h:∀y∈zs.take j,eo y=0)(he:eo x≠0):zbp eo zs=eo x:=by
 have hj:=(List.getElem?_eq_some_iff.1 hx).1;have hd:zs.drop j=x::zs.drop (j+1):=by
  rw[drop_eq_getElem_cons hj];rw[getElem?_eq_getElem hj]at hx;injection hx with hx;rw[hx]
 have h1:∀ (l m:List Int),(∀y∈l,eo y=0)->zbp eo (l++x::m)=eo x:=by
  intro l
  induction l with
  | nil=>intro m _;rw[nil_append,zdh,if_neg he]
  | cons a l ih=>intro m hl;rw[cons_append,zdh,if_pos (hl a mem_cons_self)];exact ih m (λy hy=>hl y (mem_cons_of_mem _ hy))
 rw[<-take_append_drop j zs,hd];exact h1 _ _ h
section
variable {XB:World->Nat->(Nat->Prop)->Sc->Prop} {FB:World->Nat->(Nat->Prop)->FD->Prop}
theorem zsc(hX:XC XB)(hC:FWE FB){w:World}{g gf gs n cap:Nat}{a:Option Addr}{Fs Ff:Nat->Prop}{X:Sc}{D:FD}{zs:List Int}{o:Int->Option Rc}{eo:Int->Int}(sb:XB w gs Fs X)(fb:FB w gf Ff D)(c0:w.cell? ⟨g,0,none⟩=some (.pointer (some ⟨gf,0,none⟩)))(row:Row w a n zs)(hW:WX X)(hB:BSc X 900)(hD:DOk D)(hl:D.L.length<=300)(hn:n<=1900)(hz:Rgs zs)
  (Zm:∀x,oeR (stO D x).wo (zby X.S x) (stO D x).sh=eo x/\(if obR (stO D x).wo (zby X.S x) (stO D x).sh=true then some (zrx x (zby X.S x) (stO D x).wo) else none)=o x):
  Calls prog 75 #[.pointer (some ⟨g,0,none⟩),.pointer (some ⟨gs,0,none⟩),.slice a n cap] w λe w'=>∃v er,e= .returned (.tuple #[v,.int .i64 er])/\er=zbp eo zs/\(er=0->OwnX 12 cRc 92 w' w.heap.size v (zs.filterMap o))/\Bw w w':=by
 have hg:=World.block_lt_of_cell? _ _ c0;have Co:Hid (∀W,Bw w W->W.cell? ⟨g,0,none⟩=some (.pointer (some ⟨gf,0,none⟩))/\g<W.heap.size/\Row W a n zs):=kA (λW q=>⟨zam c0 q,Nat.lt_of_lt_of_le hg q.size,zar row q⟩);have Qh:Hid (∀W x,Bw w W->Calls prog 136 #[.pointer (some ⟨gs,0,none⟩),.int .i64 x] W λe w'=>∃Z b,e= .returned (.tuple #[.agg (toArray Z),.bool b])/\Z=pl (zby X.S x)/\Bw W w'):=kA (λW x q=>(hX.get W gs Fs X x hW hB (hX.kb.keep sb q)).mono (λ_ _ ⟨Z,h1,h2,h3⟩=>⟨Z,_,h1,h2,h3⟩));have Hu:Hid (∀W x,Bw w W->Rg x->Calls prog 137 #[.pointer (some ⟨gf,0,none⟩),.int .i64 x] W λe w'=>∃Z b,e= .returned (.tuple #[.agg (toArray Z),.bool b])/\Z=lS (stO D x).wo (stO D x).sh/\Bw W w'):=kA (λW x q hx=>(hC.state W gf Ff D x hD hl (hC.keep fb q) hx).mono (λ_ _ ⟨Z,h1,h2,h3⟩=>⟨Z,_,h1,h2,h3⟩))
 have CQ:Hid (∀W x,Calls prog 138 #[.int .i64 x,.agg (pl (zby X.S x)).toArray,.agg (lS (stO D x).wo (stO D x).sh).toArray] W λe w'=>∃r b,e= .returned (.tuple #[.agg (cRc r).toArray,.bool b,.int .i64 (eo x)])/\(eo x=0->o x=if b=true then some r else none)/\Bw W w'):=kA (λW x=>(zt1 x (zby X.S x) (stO D x).wo (stO D x).sh W).mono (λ_ _ ⟨h1,h2⟩=>by
  obtain⟨q1,q2⟩:=Zm x;refine⟨_,_,by rw[h1,q1],λ_=> ?_,h2⟩;rw[<-q2];unfold ovR
  split <;> simp_all))
 obtain⟨pf,Vv⟩:∃pf:Int->List Value,pf=λx=>pl (zby X.S x):=⟨_,rfl⟩;obtain⟨sf,Vw⟩:∃sf:Int->List Value,sf=λx=>lS (stO D x).wo (stO D x).sh:=⟨_,rfl⟩;have BJ:Hid (∀x,AXs (pf x) 52 24):=kA (λx=>by rw[Vv];exact znS _);have jT:Hid (∀x,AXs (sf x) 228 13):=kA (λx=>by rw[Vw];exact zuF _ _);have ep:∀x,pl (zby X.S x)=pf x:=λx=>by rw[Vv]
 have es:∀x,lS (stO D x).wo (stO D x).sh=sf x:=λx=>by rw[Vw]
 simp only[ep,es]at Qh Hu CQ;have Dj:=kA hz;have kG:=kA row.1;have xR:Hid (zs.take n=zs):=kA (take_of_length_le (by rw[row.1];exact Nat.le_refl _));clear hX hC sb fb c0 row hW hB hD hl hz Zm ep es Vv Vw hg;go_enter func75,ntmps75;go_wp2
 go_loopw [8,10,11,12,13,14,15,16,17,20] (λv8 _ _ _ _ _ _ _ _ v20 wr=>∃j:Nat,v20= .int .i64 j/\j<=n/\(∀y∈zs.take j,eo y=0)/\OwnX 12 cRc 92 wr w.heap.size v8 ((zs.take j).filterMap o)/\Bw w wr) (λ_ _ _ _ _ _ _ _ _ v20 _=>n - (intOf v20).toNat)
 case atStart=>exact⟨0,rfl,om,λy hy=>(by cases hy),OwnX.nil _ _ _ _ _,Below.refl _ _⟩
 case round=>
  obtain⟨j,rfl,hj,Rz,ho,hb⟩:=hrel;have Jj:=kA Rz;have HO:=kA ho;have HB:=kA hb;clear Rz ho hb
  by_cases hlt:j<n
  ·have j0:(0:Int)<=(j:Int):=om;have j1:(j:Int)<(n:Int):=om;obtain⟨ib,ioff,y,rfl,hy,cy⟩:=zch (Co wr HB).2.2 hlt;have Qp:=World.block_lt_of_cell? _ _ cy;have HY:=kA hy;have RA:Rg y:=Dj.out y (mem_of_getElem? hy);have Qv:=kA RA;clear hy RA;go_wp2_with fail;refine (Qh _ y HB).mono ?_;rintro e w5 ⟨Z,zb,rfl,hZ,b5⟩;have HZ:=kA hZ;have Zs:Hid (AXs Z 52 24):=kA (by rw[hZ];exact BJ y);have H9:Bw w5 ((w5.alloc (.cells Z24.toArray 52)).setCells w5.heap.size 0 Z):=zab Z (zaa _ _) (Nat.le_refl _);have Qw:Hid ((w5.alloc (.cells Z24.toArray 52)).there w5.heap.size 0 Z.toArray.size):=kA (zae (Blk.new w5 _ _) (by rw[size_toArray,Zs.len];exact Nat.le_refl 24));have Kz:Hid (Blk ((w5.alloc (.cells Z24.toArray 52)).setCells w5.heap.size 0 Z) w5.heap.size 52 Z.toArray/\Bw wr ((w5.alloc (.cells Z24.toArray 52)).setCells w5.heap.size 0 Z)):=kA ⟨zal (Blk.new w5 _ _) (by rw[Zs.len];rfl),zad b5 H9⟩;clear hZ b5 H9 cy Qp;go_upto_region 6 with (refine wpList_store_mid rfl 52 (.tmp 11) (.tmp 28) rfl w5.heap.size 0 Z.toArray rfl rfl Qw Zs.sizea Zs.onea ?_);refine fin (λW=>Blk W w5.heap.size 52 Z.toArray/\Bw wr W) Kz ?_;clear Kz Qw;obtain⟨g11,yt⟩:∃g,g=w5.heap.size:=⟨_,rfl⟩;rw[<-yt];rintro W1 ⟨Y9,kj⟩;have Qx:=kA Y9;have Hk:=kA kj;obtain⟨c0,hg,-⟩:=Co.out W1 (zad HB kj);clear Y9 kj yt;go_wp2_with fail;refine (Hu _ y (zad HB Hk) Qv).mono ?_;rintro e w6 ⟨Y,yb,rfl,hY,b6⟩;have YR:=kA hY;have Zt:Hid (AXs Y 228 13):=kA (by rw[hY];exact jT y);have H9:Bw w6 ((w6.alloc (.cells (lS (λ_=>0) false).toArray 228)).setCells w6.heap.size 0 Y):=zab Y (zaa _ _) (Nat.le_refl _);have RH:Hid ((w6.alloc (.cells (lS (λ_=>0) false).toArray 228)).there w6.heap.size 0 Y.toArray.size):=kA (zae (Blk.new w6 _ _) (by rw[size_toArray,Zt.len];exact Nat.le_refl 13));have dR:Hid (Blk ((w6.alloc (.cells (lS (λ_=>0) false).toArray 228)).setCells w6.heap.size 0 Y) w6.heap.size 228 Y.toArray/\Blk ((w6.alloc (.cells (lS (λ_=>0) false).toArray 228)).setCells w6.heap.size 0 Y) g11 52 Z.toArray/\Bw wr ((w6.alloc (.cells (lS (λ_=>0) false).toArray 228)).setCells w6.heap.size 0 Y)):=kA ⟨zal (Blk.new w6 _ _) (by rw[Zt.len];rfl),(Qx.keep (zad b6 H9)),zad Hk (zad b6 H9)⟩;clear hY b6 H9 c0 hg Qx Hk;go_upto_region 7 with (refine wpList_store_mid rfl 228 (.tmp 13) (.tmp 38) rfl w6.heap.size 0 Y.toArray rfl rfl RH Zt.sizea Zt.onea ?_);refine fin (λW=>Blk W w6.heap.size 228 Y.toArray/\Blk W g11 52 Z.toArray/\Bw wr W) dR ?_;clear dR RH;obtain⟨g13,za⟩:∃g,g=w6.heap.size:=⟨_,rfl⟩;rw[<-za];rintro W2 ⟨RI,Y9,Kh⟩;have RJ:=kA RI;have Qx:=kA Y9;have He:=kA Kh;clear RI Y9 Kh za;have yZ:Hid (∀W,Calls prog 138 #[.int .i64 y,.agg Z.toArray,.agg Y.toArray] W λe w'=>∃r b,e= .returned (.tuple #[.agg (cRc r).toArray,.bool b,.int .i64 (eo y)])/\(eo y=0->o y=if b=true then some r else none)/\Bw W w'):=kA (λW=>by rw[HZ.out,YR.out];exact CQ W y)
   go_wp2_with (first
    | refine wpList_load_mid rfl 52 (.tmp 11) rfl g11 0 rfl Z _ (zac Qx) underlying52 rfl Zs.size ?_
    | refine wpList_load_mid rfl 228 (.tmp 13) rfl g13 0 rfl Y _ (zac RJ) underlying228 rfl Zt.size ?_)
   refine (yZ _).mono ?_;rintro e w7 ⟨r,rb,rfl,RL,b7⟩;have Zc:=kA RL;have Dp:=kA (zza r);have yu:=kA (zxB r);obtain⟨V,hV⟩:∃V,V=cRc r:=⟨_,rfl⟩;have HV:=kA hV;rw[<-hV]at Dp yu ⊢;have H9:Bw w7 ((w7.alloc (.cells (cRc zRc).toArray 92)).setCells w7.heap.size 0 V):=zab V (zaa _ _) (Nat.le_refl _);have jC:Hid ((w7.alloc (.cells (cRc zRc).toArray 92)).there w7.heap.size 0 V.toArray.size):=kA (zae (Blk.new w7 _ _) (by rw[size_toArray,Dp.len];exact Nat.le_refl 12));have RN:Hid (Blk ((w7.alloc (.cells (cRc zRc).toArray 92)).setCells w7.heap.size 0 V) w7.heap.size 92 V.toArray/\Bw wr ((w7.alloc (.cells (cRc zRc).toArray 92)).setCells w7.heap.size 0 V)):=kA ⟨zal (Blk.new w7 _ _) (by rw[Dp.len];rfl),zad He (zad b7 H9)⟩;clear RL hV b7 H9 Qx RJ He yZ HZ YR Zs Zt;go_upto_region 8 with (refine wpList_store_mid rfl 92 (.tmp 15) (.tmp 45) rfl w7.heap.size 0 V.toArray rfl rfl jC Dp.sizea Dp.onea ?_);refine fin (λW=>Blk W w7.heap.size 92 V.toArray/\Bw wr W) RN ?_;clear RN jC;obtain⟨g15,C0⟩:∃g,g=w7.heap.size:=⟨_,rfl⟩;rw[<-C0];rintro W3 ⟨xV,KO⟩;have XG:=kA xV;have Ky:=kA KO;have BK:=xV.lt;have T7:w.heap.size<=W3.heap.size:=Nat.le_trans HB.size KO.size;clear xV KO C0;obtain⟨ey,Vx⟩:∃ey,ey=eo y:=⟨_,rfl⟩;have Jk:=kA Vx;rw[<-Vx]at Zc ⊢;clear Vx
   by_cases he:ey=0
   ·subst he;have cd:=kA (Zc rfl)
    have qt:Hid (∀z∈zs.take (j+1),eo z=0):=kA (λz hz=>by
     rw[take_add_one,HY.out]at hz;rcases mem_append.1 hz with m | m
     ·exact Jj z m
     ·have e:z=y:=by simpa using m
      rw[e];exact Jk.symm)
    have Ks:=kA (zxu o HY);rw[cd.out]at Ks;have Y4:((zs.take j).filterMap o).length<=2000:=by
     have h1:=length_filterMap_le o (zs.take j);rw[length_take]at h1;omega
    obtain⟨L8,Qq⟩:∃L,L=(zs.take j).filterMap o:=⟨_,rfl⟩;rw[<-Qq]at HO Ks Y4;clear Qq Jj Jk Zc cd
    cases rb with
    | true=>
     rw[if_pos rfl]at Ks
     go_wp2_with (first
      | refine wpList_load_mid rfl 92 (.tmp 15) rfl g15 0 rfl V _ (zac XG) underlying92 rfl Dp.size ?_
      | refine zet rfl 85 92 (.tmp 53) rfl V rfl yu ?_
      | (at_builtin;refine zbu rfl (.tmp 52) (.tmp 54) 85 96 (.agg (cRc zRc).toArray) rfl underlying85 zcA rfl (by decide) (by decide) zaC r (zcZ r) rfl ((HO.keep Ky).keep (zaa _ _)) W3.heap.size 1 rfl (by rw[<-HV.out];exact zac (Blk.new W3 _ _)) Y4 (by simp;omega) ?_))
     intro v' W4 k1 k2 k3;have K:Hid (OwnX 12 cRc 92 W4 w.heap.size v' ((zs.take (j+1)).filterMap o)/\Bw w W4):=kA ⟨by rw[Ks.out];exact k1,zaO (zad (zad HB Ky) (zaa _ _)) k2 (λb e=>(HO.lt b e).1)⟩;clear k1 k2 k3 HO HB Ky XG Ks Dp yu HV;go_wp2;go_roundw
     case rel=>exact⟨j+1,by go_num,om,qt.out,K.1,K.2⟩
     case measure=>simp[intOf] <;> omega
    | false=>
     rw[if_neg (by decide)]at Ks;have K:Hid (OwnX 12 cRc 92 W3 w.heap.size u8 ((zs.take (j+1)).filterMap o)/\Bw w W3):=kA ⟨by rw[Ks.out];exact (append_nil L8).symm ▸ HO.out.keep Ky.out,zad HB.out Ky.out⟩;clear HO HB Ky XG Ks Dp yu HV;go_wp2;go_roundw
     case rel=>exact⟨j+1,by go_num,om,qt.out,K.1,K.2⟩
     case measure=>simp[intOf] <;> omega
   ·have Kn:Hid (ey=zbp eo zs/\Bw w W3):=kA ⟨by
     rw[zoY HY Jj (by rw[<-Jk.out];exact he)]
     exact Jk.out,zad HB Ky⟩
    have KH:=kA he;go_wp2;go_ret2;exact⟨_,ey,rfl,Kn.1,λc=>absurd c KH,Kn.2⟩
  ·obtain rfl:j=n:=om;have j2:¬(j:Int)<(j:Int):=om
   have HF:Hid (0=zbp eo zs/\OwnX 12 cRc 92 wr w.heap.size u8 (zs.filterMap o)/\Bw w wr):=kA ⟨by
    have h1:=Jj.out;rw[xR.out]at h1;exact (zh3.2 h1).symm,by
    have q:=HO.out;rw[xR.out]at q
    exact q,HB⟩
   go_wp2;go_ret2;exact⟨u8,0,rfl,HF.1,λ_=>HF.2.1,HF.2.2⟩
end
theorem zAq:pl q13=[.int .i64 7,.int .i64 65536,.int .i64 0,.int .i64 0,.int .i64 5,.int .i64 0,.int .i64 65536,.int .i64 0,.int .i64 0,.int .i64 0,.int .i64 0,.int .i64 65536,.int .i64 0,.int .i64 2,.int .i64 0,.int .i64 0,.int .i64 0,.int .i64 0,.int .i64 0,.int .i64 0,.int .i64 0,.int .i64 0,.bool false,.int .i64 0]:=by rfl
section
variable {EB:World->Nat->(Nat->Prop)->XS->Prop} {XB:World->Nat->(Nat->Prop)->Sc->Prop}
theorem zsd(hE:EC EB XB){w0 W:World}{g gs:Nat}{F Fs:Nat->Prop}{E:XS}{X:Sc}(h:Du EB XB w0 W g gs F Fs E X)(hS:SX3 X)(hk:EOk X E)(hB:BSc X 250)(hb:EBd E 100)(hl:∀p∈E.S,p.2<256)(VG:X.S.room<=19):
  Calls prog 13 #[.pointer (some ⟨g,0,none⟩),.pointer (some ⟨gs,0,none⟩)] W λe w'=>∃a n cap zs er E' F' Sp,e= .returned (.tuple #[.slice a n cap,.int .i64 er])/\n=zs.length/\Row w' a n zs/\Synced X E zs er E'/\Du EB XB w0 w' g gs F' Sp E' (zfY X)/\(∀b,F' b->F b∨W.heap.size<=b)/\(∀b,Sp b->Fs b∨W.heap.size<=b)/\Fr W w' (λb=>F b∨Fs b)/\(n=0∨∀ad,a=some ad->W.heap.size<=ad.block):=by
 refine (hE.sync W g F E gs Fs X h.eb h.xb h.ap hS hk hB hb hl VG).mono ?_;rintro e w' ⟨v,zs,er,E',rfl,⟨a,cap,rfl,row,Kt⟩,hs,hy⟩;obtain⟨F',Sp,k1,k2,k3,k4⟩:=h.sy hy;exact⟨a,zs.length,cap,zs,er,E',F',Sp,rfl,rfl,row,hs,k1,k2,k3,k4,Kt⟩
theorem zjk(hE:EC EB XB){w0 W:World}{g gs:Nat}{F Fs:Nat->Prop}{E E1:XS}{X:Sc}{zs:List Int}{er:Int}(h:Du EB XB w0 W g gs F Fs E X)(hS:SX3 X)(hk:EOk X E)(hB:BSc X 250)(hb:EBd E 100)(hl:∀p∈E.S,p.2<256)(VG:X.S.room<=19)(hy:Synced X E zs er E1):
  Calls prog 13 #[.pointer (some ⟨g,0,none⟩),.pointer (some ⟨gs,0,none⟩)] W λe w'=>∃a cap F' Sp,e= .returned (.tuple #[.slice a zs.length cap,.int .i64 er])/\Du EB XB w0 w' g gs F' Sp E1 (zfY X):=by
 refine (zsd hE h hS hk hB hb hl VG).mono ?_;rintro e w' ⟨a,n,cap,gR,gS,E',F',Sp,rfl,rfl,row,hs,k1,-,-,-,-⟩;obtain⟨rfl,rfl,rfl⟩:=hs.one hy;exact⟨a,cap,F',Sp,rfl,k1⟩
theorem zuG:∃r,r133=[r]/\r.id=1/\r.x3=5:=by
 have h:=zAm.1
 cases c:r133 with
 | nil=>rw[c]at h;cases h
 | cons r l=>
  rw[c,map_cons]at h;injection h with h1 h2;injection h1 with h3 h4;exact⟨r,by rw[List.map_eq_nil_iff.1 h2],h3,h4⟩
theorem zmi(hX:XC XB)(hE:EC EB XB)(w:World):Calls prog 8 #[] w λe w'=>e= .returned (.bool true)/\Bw w w':=by
 have mU:=kA (hX.new w 9 om);have C3:=kA (zpO 5 0 0)
 have D6:Hid (∀u gs Fs,XB u gs Fs zxz->Calls prog 28 #[.pointer (some ⟨gs,0,none⟩),.agg (pl q13).toArray,.int .i64 (-1)] u λe w'=>e= .returned (.tuple #[.int .i64 0,.int .i64 0])/\ChB XB u w' gs Fs zvC):=kA (λu gs Fs h=>by
  have q:=hX.spawn u gs Fs zxz q13 (-1) (WX.zero om) (b130.mono om) h (by decide);rw[t131.1,t131.2]at q
  exact q)
 have Dr:Hid (∀u gs Fs,XB u gs Fs zvC->Calls prog 28 #[.pointer (some ⟨gs,0,none⟩),.agg (pl q13).toArray,.int .i64 0] u λe w'=>e= .returned (.tuple #[.int .i64 1,.int .i64 0])/\ChB XB u w' gs Fs x132):=kA (λu gs Fs h=>by
  have q:=hX.spawn u gs Fs zvC q13 0 ((WX.zero (r:=9) om).sp _ _) (b131.mono om) h (by decide);rw[t132.1,t132.2]at q
  exact q)
 have Y1:=kA hE.new;have Bn:Hid (∀W g gs F Fs,Du EB XB w W g gs F Fs XS0 x132->Calls prog 13 #[.pointer (some ⟨g,0,none⟩),.pointer (some ⟨gs,0,none⟩)] W λe w'=>∃a cap F' Sp,e= .returned (.tuple #[.slice a 2 cap,.int .i64 0])/\Du EB XB w w' g gs F' Sp e131 x133):=kA (λW g gs F Fs h=>zjk hE h z132 zzu (b132.mono om) (s130.mono om) (λp q=>by cases q) zAo.1 y131);have MY:Hid (∀W g gs F Fs,Du EB XB w W g gs F Fs e131 x133->Calls prog 13 #[.pointer (some ⟨g,0,none⟩),.pointer (some ⟨gs,0,none⟩)] W λe w'=>∃a cap F' Sp,e= .returned (.tuple #[.slice a 0 cap,.int .i64 0])/\Du EB XB w w' g gs F' Sp e132 x134):=kA (λW g gs F Fs h=>zjk hE h z133 zzv (b133.mono om) (s131.mono om) (λp q=>by have:=l131 p q;omega) zAo.2.1 y132)
 have Jc:Hid (∀W g gs F Fs,Du EB XB w W g gs F Fs e132 x134->Calls prog 29 #[.pointer (some ⟨gs,0,none⟩),.int .i64 0] W λe w'=>e= .returned (.int .i64 0)/\∃Sp,Du EB XB w w' g gs F Sp e132 x135):=kA (λW g gs F Fs h=>by
  have q:=hX.despawn W gs Fs x134 0 z134.wx (b134.mono om) h.xb (by decide);rw[t135]at q;refine q.mono ?_;rintro e w' ⟨rfl,k⟩;obtain⟨Sp,k1,-,-⟩:=h.sc hE.kb k
  exact⟨rfl,Sp,k1⟩)
 have M5:Hid (∀W g gs F Fs,Du EB XB w W g gs F Fs e132 x135->Calls prog 13 #[.pointer (some ⟨g,0,none⟩),.pointer (some ⟨gs,0,none⟩)] W λe w'=>∃a cap F',e= .returned (.tuple #[.slice a 2 cap,.int .i64 0])/\EB w' g F' e133/\Bw w w'):=kA (λW g gs F Fs h=>(zjk hE h z135 k134 (b135.mono om) (s132.mono om) (λp q=>by have:=l132 p q;omega) zAo.2.2 y133).mono (λe w' ⟨a,cap,F',Sp,q1,q2⟩=>⟨a,cap,F',q1.trans rfl,q2.eb,q2.be⟩))
 have Z0:Hid (∀W g F,EB W g F e133->Calls prog 20 #[.pointer (some ⟨g,0,none⟩)] W λe w'=>∃b off cap,e= .returned (.slice (some ⟨b,off,none⟩) 1 cap)/\w'.cell? ⟨b,off,none⟩=some (.int .i64 1)/\w'.cell? ⟨b,off+9,none⟩=some (.int .i64 5)/\b<w'.heap.size/\EB w' g F e133/\Bw W w'):=kA (λW g F h=>by
  obtain⟨r,hr,h1,h5⟩:=zuG;have Mi:e133.R=[r]:=hr;refine (hE.records W g F e133 h (by rw[Mi];show 1<=2000;omega)).mono ?_;rintro e w' ⟨v,rfl,ho,hb⟩;obtain⟨a,cap,rfl,_,_,row⟩:=ho.row zaC;rw[Mi]at row ⊢;obtain⟨b,off,x,rfl,Ht,hx,Ci⟩:=row.at_ (i:=0) (by show 0<1;omega);have hx':r=x:=by simpa using hx
  subst hx';have c0:=Ci 0 _ rfl;have c9:=Ci 9 _ rfl;rw[Nat.zero_mul,Nat.add_zero]at c0 c9
  exact⟨b,off,cap,rfl,by rw[<-h1];exact c0,by rw[<-h5];exact c9,Ht,hE.kb.keep h hb,hb⟩)
 have Mx:SI e133.S:=(k135).si
 have ca:Hid (∀W g F,EB W g F e133->Calls prog 22 #[.pointer (some ⟨g,0,none⟩),.int .i64 1] W λe w'=>e= .returned (.int .i64 1)/\EB w' g F e133/\Bw W w'):=kA (λW g F h=>by
  have q:=hE.slot W g F e133 1 h Mx (by decide);rw[zAm.2.1]at q
  exact q.mono (λe w' ⟨q1,q2⟩=>⟨q1,hE.kb.keep h q2,q2⟩))
 have xF:Hid (∀W g F,EB W g F e133->Calls prog 22 #[.pointer (some ⟨g,0,none⟩),.int .i64 0] W λe w'=>e= .returned (.int .i64 (-1))/\EB w' g F e133/\Bw W w'):=kA (λW g F h=>by
  have q:=hE.slot W g F e133 0 h Mx (by decide);rw[zAm.2.2]at q
  exact q.mono (λe w' ⟨q1,q2⟩=>⟨q1,hE.kb.keep h q2,q2⟩))
 have Hu:Hid (∀W g F,EB W g F e133->Calls prog 21 #[.pointer (some ⟨g,0,none⟩)] W λe w'=>e= .returned (.int .i64 4)/\Bw W w'):=kA (λW g F h=>hE.steps W g F e133 h);have eH:=kA hX.kb;have vU:=kA hE.kb;have Mz:=kA (znS q13);obtain⟨QQ,eV⟩:∃QQ,QQ=pl q13:=⟨_,rfl⟩;rw[<-eV]at D6 Dr Mz;have EH:=kA (eV.trans zAq);obtain⟨T0,eW⟩:∃T,T=Sc0 9:=⟨_,rfl⟩;have M6:zxz=T0:=eW.symm;rw[<-eW]at mU;rw[M6]at D6;generalize zvC=T1 at D6 Dr;generalize x132=T2 at Dr Bn;generalize x133=T3 at Bn MY;generalize x134=T4 at MY Jc;generalize x135=T5 at Jc M5;obtain⟨A0,M7⟩:∃A,A=XS0:=⟨_,rfl⟩;rw[<-M7]at Y1 Bn;generalize e131=A1 at Bn MY;generalize e132=A2 at MY Jc M5;generalize e133=A3 at M5 Z0 ca xF Hu Mx;clear hX hE Mx eV eW M6 M7;go_enter func8,ntmps8;go_wp2_with fail;refine mU.mono ?_;rintro e w1 ⟨gs,Fs,rfl,sb,hF,b1⟩;have Mq:=kA sb;have HB:=kA (And.intro b1 (And.intro hF b1.size));clear sb hF b1 mU;go_wp2_with fail;refine (C3 _).mono ?_;rintro e w2 ⟨rfl,b2⟩;have H9:Bw w2 ((w2.alloc (.cells Z24.toArray 52)).setCells w2.heap.size 0 QQ):=zab QQ (zaa _ _) (Nat.le_refl _);have jC:Hid ((w2.alloc (.cells Z24.toArray 52)).there w2.heap.size 0 QQ.toArray.size):=kA (zae (Blk.new w2 _ _) (by rw[size_toArray,Mz.len];exact Nat.le_refl 24));have RN:Hid (Blk ((w2.alloc (.cells Z24.toArray 52)).setCells w2.heap.size 0 QQ) w2.heap.size 52 QQ.toArray/\Bw w1 ((w2.alloc (.cells Z24.toArray 52)).setCells w2.heap.size 0 QQ)):=kA ⟨zal (Blk.new w2 _ _) (by rw[Mz.len];rfl),zad b2 H9⟩;have B9:Hid (¬Fs w2.heap.size):=kA (λc=>by have:=eH.inb _ _ _ _ Mq _ c;have:=b2.size;omega);clear b2 H9 C3;go_upto_region 3 with (refine wpList_store_mid rfl 52 (.tmp 3) (.tmp 22) rfl w2.heap.size 0 QQ.toArray rfl (by rw[EH.out];rfl) jC Mz.sizea Mz.onea ?_);refine fin (λW=>Blk W w2.heap.size 52 QQ.toArray/\Bw w1 W) RN ?_;clear RN jC;obtain⟨g3,dT⟩:∃g3,g3=w2.heap.size:=⟨_,rfl⟩;rw[<-dT]at B9 ⊢;rintro W3 ⟨k3,KO⟩;have K3:=kA k3;replace Mq:=kA (eH.keep Mq KO);replace HB:=kA (And.intro (zad HB.1 KO) (And.intro HB.2.1 (Nat.le_trans HB.2.2 KO.size)));clear k3 KO dT
 go_wp2_with (first
  | refine wpList_load_mid rfl 52 (.tmp 3) rfl g3 0 rfl QQ _ (zac K3) underlying52 rfl Mz.size ?_)
 refine (D6 _ gs Fs Mq).mono ?_;rintro e w4 ⟨rfl,ch⟩
 replace K3:=kA (by
  obtain⟨F',q1,q2,q3⟩:=ch
  exact K3.same (q2.2.2.2.2 g3 K3.lt B9):Hid (Blk w4 g3 52 QQ.toArray))
 obtain⟨Cr,sb,hb⟩:=ch.step HB.1 HB.2.1 HB.2.2;replace Mq:=kA sb;replace HB:=kA hb;clear ch sb hb D6 B9
 go_wp2_with (first
  | refine wpList_load_mid rfl 52 (.tmp 3) rfl g3 0 rfl QQ _ (zac K3) underlying52 rfl Mz.size ?_)
 refine (Dr _ gs Cr Mq).mono ?_;rintro e w5 ⟨rfl,ch⟩;obtain⟨Nb,sb,hb⟩:=ch.step HB.1 HB.2.1 HB.2.2;replace Mq:=kA sb;replace HB:=kA hb;clear ch sb hb Dr K3 Mz EH;go_wp2_with fail;refine (Y1 _).mono ?_;rintro e w6 ⟨g,F,rfl,Mb,hF,b6⟩;have MA:Hid (Du EB XB w w6 g gs F Nb A0 T2):=kA ⟨Mb,eH.keep Mq b6,λb c d=>by have:=hF b c;have:=eH.inb _ _ _ _ Mq b d;omega,zad HB.1 b6,λb c=>Nat.le_trans HB.2.2 (hF b c),HB.2.1⟩;clear Mb hF b6 Mq HB Y1;go_wp2_with fail;refine (Bn _ _ _ _ _ MA).mono ?_;rintro e w7 ⟨a1,c1,F1,EU,rfl,h⟩;replace MA:=kA h;clear h Bn;go_wp2_with fail;refine (MY _ _ _ _ _ MA).mono ?_;rintro e w8 ⟨a2,c2,F2,gT,rfl,h⟩;replace MA:=kA h;clear h MY;go_wp2_with fail;refine (Jc _ _ _ _ _ MA).mono ?_;rintro e w9 ⟨rfl,gU,h⟩;replace MA:=kA h;clear h Jc;go_wp2_with fail;refine (M5 _ _ _ _ _ MA).mono ?_;rintro e Ss ⟨a3,c3,F3,rfl,Mb,hb⟩;have MC:=kA Mb;have HB:=kA hb;clear Mb hb M5 MA;go_wp2_with fail;refine (Z0 _ _ _ MC).mono ?_;rintro e Yv ⟨rb,roff,rcap,rfl,k1,k9,j7,Mb,hb⟩;replace MC:=kA Mb;replace HB:=kA (zad HB hb);clear Mb hb Z0;go_wp2_with fail;refine (ca _ _ _ MC).mono ?_;rintro e Su ⟨rfl,Mb,hb⟩;replace MC:=kA Mb;replace HB:=kA (zad HB hb);clear Mb hb ca k1 k9 j7;go_wp2_with fail;refine (xF _ _ _ MC).mono ?_;rintro e ZI ⟨rfl,Mb,hb⟩;replace MC:=kA Mb;replace HB:=kA (zad HB hb);clear Mb hb xF;go_wp2_with fail;refine (Hu _ _ _ MC).mono ?_;rintro e gV ⟨rfl,hb⟩;replace HB:=kA (zad HB hb);clear hb Hu MC;go_wp2;go_ret;exact⟨rfl,HB⟩
end
open Go.ChangeShapes Go.WideShapes Go.ChangeAt Go.RowKit Go.Deep
instance:Inhabited A8:=⟨⟨0,0,false,0,zT,none,0,0,[]⟩⟩
section
variable {H:Type} {enc:TypeId × Value->H} {w:World} {base:Nat} {held:Bool}
theorem zmj{fuel:Nat}{x:DataW H × List MemPlace}(h:DataW.trod enc prog w base (λ_=>true) held fuel 53 cs=some x):∃a len cap zs,cs=[.slice a len cap]/\Row w a len zs:=by
 rcases open_ints underlying53 underlying244 oM h with ⟨hcs,_⟩ | ⟨ad,l,c,zs,hcs,_,hl,hm,hz,_,hcell,gE⟩
 ·exact⟨none,0,0,[],hcs,rfl,om,.inl rfl⟩
 ·unfold maxLen at hm;simp only[if_true]at hz;refine⟨some ad,l,c,zs.take l,hcs,by rw[length_take];omega,om,?_⟩
  by_cases h0:l=0
  ·exact .inl h0
  ·obtain⟨b,off,spot⟩:=ad;have Mn:spot=none:=by simpa[Addr.add] using World.cell?_spot (hcell 0 om)
   subst Mn;refine .inr ⟨b,off,rfl,λi hi=> ?_⟩;have:=hcell i om;rw[Addr.add_mid]at this;rw[this];simp[hi]
end
end Go.Proofs.YtlibdcmcbinfnaaGreat
namespace Go.Proofs.YtlibdcmcbinfnaaGreat.storeTold
open _root_.Go.Proofs.Tryz List Nat
theorem own:ownKnob prog.godebug=none:=oM
end Go.Proofs.YtlibdcmcbinfnaaGreat.storeTold
namespace Go.Proofs.YtlibdcmcbinfnaaGreat
open _root_.Go.Proofs.Tryz List Nat
open Go.ChangeShapes Go.WideShapes Go.ChangeAt Go.RowKit Go.Deep
instance:Inhabited A11:=⟨⟨0,0,0,zT,none,0,0,[]⟩⟩
section
variable {H:Type} {enc:TypeId × Value->H} {w:World} {base:Nat} {held:Bool}
theorem zoZ{fuel:Nat}{cs:List Value}{x:DataW H × List MemPlace}(hl:cs.length=28)(h:DataW.trod enc prog w base (λ_=>true) held fuel 55 cs=some x):∃a:A11,cs=c11 a/\ok11 w a:=by
 obtain⟨xs,n,_,_,_,Za,hx⟩:=DataW.trod_struct underlying55 h;have MI:xs.length=5:=Za;have bB:prog.cellsOf 5=1:=oM;have f0:DataW.trod enc prog w base (λ_=>true) held n 5 ((cs.drop 0).take 1)=some (xs[0]'(by omega)):=by
  have:=(hx 0 _ rfl).trans (getElem?_eq_getElem (show 0<xs.length by omega));exact (congrArg (λc=>DataW.trod enc prog w base (λ_=>true) held n 5 ((cs.drop 0).take c)) bB.symm).trans this
 have f1:DataW.trod enc prog w base (λ_=>true) held n 5 ((cs.drop 1).take 1)=some (xs[1]'(by omega)):=by
  have:=(hx 1 _ rfl).trans (getElem?_eq_getElem (show 1<xs.length by omega));exact (congrArg (λc=>DataW.trod enc prog w base (λ_=>true) held n 5 ((cs.drop 1).take c)) bB.symm).trans this
 have f2:DataW.trod enc prog w base (λ_=>true) held n 5 ((cs.drop 2).take 1)=some (xs[2]'(by omega)):=by
  have:=(hx 2 _ rfl).trans (getElem?_eq_getElem (show 2<xs.length by omega));exact (congrArg (λc=>DataW.trod enc prog w base (λ_=>true) held n 5 ((cs.drop 2).take c)) bB.symm).trans this
 have jp:prog.cellsOf 52=24:=oM;have f4:DataW.trod enc prog w base (λ_=>true) held n 52 ((cs.drop 3).take 24)=some (xs[3]'(by omega)):=by
  have:=(hx 3 _ rfl).trans (getElem?_eq_getElem (show 3<xs.length by omega));exact (congrArg (λc=>DataW.trod enc prog w base (λ_=>true) held n 52 ((cs.drop 3).take c)) jp.symm).trans this
 have jq:prog.cellsOf 53=1:=oM;have f5:DataW.trod enc prog w base (λ_=>true) held n 53 ((cs.drop 27).take 1)=some (xs[4]'(by omega)):=by
  have:=(hx 4 _ rfl).trans (getElem?_eq_getElem (show 4<xs.length by omega));exact (congrArg (λc=>DataW.trod enc prog w base (λ_=>true) held n 53 ((cs.drop 27).take c)) jq.symm).trans this
 obtain⟨v0,e0,_,w0⟩:=DataW.trod_int underlying5 f0;obtain⟨v1,e1,_,w1⟩:=DataW.trod_int underlying5 f1;obtain⟨v2,e2,_,w2⟩:=DataW.trod_int underlying5 f2;obtain⟨P,hP⟩:=zoq (by rw[length_take,length_drop];omega) f4;obtain⟨ka,kl,kc,ks,e5,Hd⟩:=zmj f5;refine⟨⟨v0,v1,v2,P,ka,kl,kc,ks⟩,?_,(bounds_u8 w0).1,(bounds_u8 w0).2,(bounds_u8 w1).1,(bounds_u8 w1).2,(bounds_u8 w2).1,(bounds_u8 w2).2,Hd⟩;have d0:cs=(cs.drop 0).take 1++((cs.drop 1).take 1++((cs.drop 2).take 1++((cs.drop 3).take 24++(cs.drop 27).take 1))):=by
  have a5:(cs.drop 27).take 1=cs.drop 27:=take_of_length_le (by rw[length_drop];omega);have st:∀o k,(cs.drop o).take k++cs.drop (o+k)=cs.drop o:=λo k=>by
   have:=take_append_drop k (cs.drop o)
   rwa [drop_drop]at this
  rw[a5,st 3 24,st 2 1,st 1 1,st 0 1,drop_zero]
 rw[d0,e0,e1,e2,hP,e5];rfl
end
end Go.Proofs.YtlibdcmcbinfnaaGreat
namespace Go.Proofs.YtlibdcmcbinfnaaGreat.scenePlays
open _root_.Go.Proofs.Tryz List Nat
theorem own:ownKnob prog.godebug=none:=oM
end Go.Proofs.YtlibdcmcbinfnaaGreat.scenePlays
namespace Go.Proofs.YtlibdcmcbinfnaaGreat
open _root_.Go.Proofs.Tryz List Nat
open Go.RowKit
abbrev S13:=A11 × Bool × Bool
def c13(x:S13):List Value:=c11 x.1++[.bool x.2.1,.bool x.2.2]
theorem zxC(x:S13):(c13 x).length=30:=rfl
def ARow13(w:World)(a:Option Addr)(len:Nat)(xs:List S13):Prop:=xs.length=len/\len<=9223372036854775807/\(len=0∨∃b off,a=some ⟨b,off,none⟩/\b<w.heap.size/\∀i x,xs[i]? =some x->w.rangeAt b (off+i*30) (c13 x)/\ok11 w x.1)
theorem ARow13.at_{w:World}{a:Option Addr}{n:Nat}{xs:List S13}(h:ARow13 w a n xs){i:Nat}(hi:i<n):∃b off x,a=some ⟨b,off,none⟩/\xs[i]? =some x/\w.rangeAt b (off+i*30) (c13 x)/\ok11 w x.1:=by
 obtain⟨h1,h2,h3⟩:=h;rcases h3 with h3 | ⟨b,off,e,hb,hr⟩
 ·omega
 ·have hx:xs[i]? =some (xs[i]'(by omega)):=getElem?_eq_getElem om;exact⟨b,off,_,e,hx,hr i _ hx⟩
theorem zo0(a:Option Addr)(len cap:Nat)(xs:List S13)(w:World)(row:ARow13 w a len xs):
  Calls prog 6 #[.slice a len cap] w λe w'=>∃b,e= .returned (.bool b)/\(b=true->len<=40/\∀x∈xs,x.1.n<=40)/\w=w':=by
 have Hy:=row.2.1;have HL:=kA row.1;have hJ:=kA row;clear row;go_enter func6,ntmps6;go_wp2
 go_loopw [3] (λi wr=>∃j:Nat,j<=len/\j<=41/\i= .int .i64 j/\(∀q x,q<j->xs[q]? =some x->x.1.n<=40)/\wr=w) (λi _=>len - (intOf i).toNat)
 case atStart=>exact⟨0,om,om,rfl,λq x hq=>om,rfl⟩
 case round=>
  obtain⟨j,hj,Qf,rfl,hz,rfl⟩:=hrel;have HZ:=kA hz;clear hz
  by_cases hlt:j<len
  ·have j1:(j:Int)<(len:Int):=om;have j0:(0:Int)<=(j:Int):=om
   by_cases E4:j<=40
   ·have j2:(j:Int)<=40:=om;obtain⟨b,off,x,rfl,hx,hr,H8⟩:=hJ.at_ hlt;have cx:wr.cell? ⟨b,off+j*30+27,none⟩=some (.slice x.1.a x.1.n x.1.cap):=hr 27 _ rfl;have hb:=World.block_lt_of_cell? _ _ cx;have HX:=kA hx;have Mt:=H8.2.2.2.2.2.2.2.1;clear hr H8 hx;obtain⟨xn,eY⟩:∃xn,xn=x.1.n:=⟨_,rfl⟩;have E5:=kA eY;rw[<-eY]at cx Mt;clear eY
    by_cases hn:xn<=40
    ·have n1:¬(40:Int)<(xn:Int):=om;go_wp2;go_roundw
     case rel=>exact⟨j+1,om,om,by go_num,λq y hq hy=>by
      rcases Nat.lt_succ_iff_lt_or_eq.1 hq with c | c
      ·exact HZ q y c hy
      ·rw[c,HX.out]at hy;injection hy with hy;rw[<-hy,<-E5.out]
       exact hn,by trivial⟩
     case measure=>simp[intOf] <;> omega
    ·have n1:(40:Int)<(xn:Int):=om;go_wp2;go_ret;exact .inl ⟨rfl,rfl⟩
   ·have j2:¬(j:Int)<=40:=om;have E6:¬(len:Int)<=40:=om;go_wp2;go_ret;exact .inl ⟨rfl,rfl⟩
  ·obtain rfl:j=len:=om;go_wp2;go_ret;refine⟨decide ((j:Int)<=40),rfl,λc=> ?_,rfl⟩;have c':(j:Int)<=40:=by simpa using c
   refine⟨om,λx hx=> ?_⟩;obtain⟨q,hq,e⟩:=mem_iff_getElem.1 hx;exact HZ q x (by rw[HL.out]at hq;exact hq) (by rw[<-e];exact getElem?_eq_getElem hq)
open Go.ChangeShapes Go.WideShapes Go.ChangeAt Go.RowKit Go.Deep
section
variable {H:Type} {enc:TypeId × Value->H} {w:World} {base:Nat} {held:Bool}
instance:Inhabited S13:=⟨(default,false,false)⟩
theorem zmk{fuel:Nat}{cs:List Value}{x:DataW H × List MemPlace}(hl:cs.length=30)(h:DataW.trod enc prog w base (λ_=>true) held fuel 57 cs=some x):∃s:S13,cs=c13 s/\ok11 w s.1:=by
 obtain⟨xs,n,_,_,_,Za,hx⟩:=DataW.trod_struct underlying57 h;have MI:xs.length=3:=Za;have bB:prog.cellsOf 55=28:=oM;have Dd:prog.cellsOf 4=1:=oM;have f0:DataW.trod enc prog w base (λ_=>true) held n 55 ((cs.drop 0).take 28)=some (xs[0]'(by omega)):=by
  have:=(hx 0 _ rfl).trans (getElem?_eq_getElem (show 0<xs.length by omega));exact (congrArg (λc=>DataW.trod enc prog w base (λ_=>true) held n 55 ((cs.drop 0).take c)) bB.symm).trans this
 have f1:DataW.trod enc prog w base (λ_=>true) held n 4 ((cs.drop 28).take 1)=some (xs[1]'(by omega)):=by
  have:=(hx 1 _ rfl).trans (getElem?_eq_getElem (show 1<xs.length by omega));exact (congrArg (λc=>DataW.trod enc prog w base (λ_=>true) held n 4 ((cs.drop 28).take c)) Dd.symm).trans this
 have f2:DataW.trod enc prog w base (λ_=>true) held n 4 ((cs.drop 29).take 1)=some (xs[2]'(by omega)):=by
  have:=(hx 2 _ rfl).trans (getElem?_eq_getElem (show 2<xs.length by omega));exact (congrArg (λc=>DataW.trod enc prog w base (λ_=>true) held n 4 ((cs.drop 29).take c)) Dd.symm).trans this
 obtain⟨a,e0,H8⟩:=zoZ (by rw[length_take,length_drop];omega) f0;obtain⟨b1,e1,_⟩:=DataW.trod_bool underlying4 f1;obtain⟨b2,e2,_⟩:=DataW.trod_bool underlying4 f2;refine⟨(a,b1,b2),?_,H8⟩;have d0:cs=(cs.drop 0).take 28++((cs.drop 28).take 1++(cs.drop 29).take 1):=by
  have a5:(cs.drop 29).take 1=cs.drop 29:=take_of_length_le (by rw[length_drop];omega);have st:∀o k,(cs.drop o).take k++cs.drop (o+k)=cs.drop o:=λo k=>by
   have:=take_append_drop k (cs.drop o)
   rwa [drop_drop]at this
  rw[a5,st 28 1,st 0 28,drop_zero]
 rw[d0,e0,e1,e2];rfl
theorem zkL{fuel:Nat}{a:Option Addr}{len cap:Nat}{x:DataW H × List MemPlace}(h:DataW.trod enc prog w base (λ_=>true) held fuel 22 [.slice a len cap]=some x):∃As,ARow13 w a len As:=by
 rcases open_slice underlying22 h with ⟨hcs,_⟩ | ⟨ad,l,c,m,n,D,Pl,hcs,_,yq,hm,X3,_,hi⟩
 ·simp at hcs;obtain⟨rfl,rfl,rfl⟩:=hcs;exact⟨[],rfl,om,.inl rfl⟩
 ·simp at hcs;obtain⟨rfl,rfl,rfl⟩:=hcs;unfold maxLen at hm;have hC:prog.cellsOf 57=30:=oM;rw[hC]at hi;simp only[if_true]at X3;subst X3
  obtain⟨V,hV⟩:=choose_lt (α:=S13) (n:=len) (p:=λi x=>(∀j v,(c13 x)[j]? =some v->w.cell? ((ad.add (i*30)).add j)=some v)/\ok11 w x.1) (λi eI=>by
   obtain⟨gW,hc,ht⟩:=hi i om;obtain⟨_,ku,Rk⟩:=World.cells?_some hc;obtain⟨x,hx,hb⟩:=zmk ku ht;refine⟨x,λj v hv=> ?_,hb⟩;have hj:j<30:=by have:=(List.getElem?_eq_some_iff.1 hv).1;rw[zxC]at this;exact this
   rw[Rk j hj,hx]
   exact hv)
  refine⟨(range len).map V,by simp,om,?_⟩
  by_cases h0:len=0
  ·exact .inl h0
  ·obtain⟨b,off,spot⟩:=ad;have c0:=(hV 0 om).1 0 _ rfl;have Mn:spot=none:=by simpa[Addr.add] using World.cell?_spot c0
   subst Mn;have hb:b<w.heap.size:=by
    have:=zpz c0;simpa[add_plain] using this
   refine .inr ⟨b,off,rfl,hb,λi x hx=> ?_⟩;have eI:i<len:=by have:=(List.getElem?_eq_some_iff.1 hx).1;simpa using this
   have e:V i=x:=by
    rw[getElem?_map,getElem?_range eI]at hx;simpa using hx
   rw[<-e];refine⟨λj v hv=> ?_,(hV i eI).2⟩;have:=(hV i eI).1 j v hv;simpa only[add_plain] using this
end
end Go.Proofs.YtlibdcmcbinfnaaGreat
