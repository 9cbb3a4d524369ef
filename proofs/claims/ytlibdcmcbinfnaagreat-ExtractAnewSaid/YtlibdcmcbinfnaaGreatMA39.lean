/- Lemmas. -/
import Derived.Test.YtlibdcmcbinfnaaGreatMA36
import Derived.Test.YtlibdcmcbinfnaaGreatMA38
set_option maxHeartbeats 100000000
set_option maxRecDepth 1000000
set_option linter.unusedVariables false
namespace Go.Proofs.YtlibdcmcbinfnaaGreat
open _root_.Go.Proofs.Tryz List Nat
open Go.RowKit
variable{w0 w W:World}{g gs n cap:Nat}{F Fs:Nat->Prop}{X:Sc}{E:XS}{o:Int->Option Rc}{zs:List Int}{y:Int}{eo:Int->Int}{a:Option Addr}{cs:List Value}
theorem ChB.step{α:Type}{B:World->Nat->(Nat->Prop)->α->Prop}{b0:Nat}{w1 w2:World}{x:α}(h:ChB B w1 w2 g F x)(hb:Below b0 w0 w1)(hF:∀b,F b->b0<=b)(hs:b0<=w1.heap.size):∃F',B w2 g F' x/\Below b0 w0 w2/\(∀b,F' b->b0<=b)/\b0<=w2.heap.size:=by
 obtain⟨F',h1,h2,h3⟩:=h;exact⟨F',h1,Fr.below h2 hb hF hs,λb hb=>(h3 b hb).elim (λc=>hF b c) (λc=>Nat.le_trans hs c),Nat.le_trans hs h2.2.2.2.1⟩
structure N15 (Y:List Value):Prop where
 nx:NXs Y 205
 c1:Y[1]? =some (.int .i64 (-1))
 c2:Y[2]? =some (.int .i64 65536)
 El:Y[14]? =some (.bool true)
theorem GoU.sp{S:St}(h:GoU S)(P:PT):GoU (spS S P):=h.same (h.1.sp _) (by unfold spS;split <;> rfl)
theorem SX3.sp(h:SX3 X)(P:PT)(p:Int):SX3 (zeD X P p):=⟨h.first.sp P p,by unfold zeD;split;exact h.go;exact h.go.sp P,by unfold zeD;split;exact h.marks;exact h.marks.sp P⟩
theorem SX3.de(h:SX3 X)(id:Int):SX3 (zfS X id):=⟨h.first.de id,by
 unfold zfS
 split
 ·have h1:=h.go.de h.wx.ws id;exact h1.same (GoN.to _ h1.1) (zhm _ _)
 ·exact h.go,by
 unfold zfS
 split
 ·exact NowOk.to _ (h.marks.de _)
 ·exact h.marks⟩
theorem EOk.de(h:EOk X E)(id:Int):EOk (zfS X id) E:=h.imp (λq=>q) (λ⟨X0,a,b,c,d,r⟩=>⟨X0,a,b,c,d.de id,r⟩)
theorem zxI{R:List Rc}(ho:∀x r,o x=some r->r.id=x)(hz:zs.Pairwise (·<·))(hR:∀k∈R.map Rc.id,k∈zs):Wk o R zs (zs.filterMap o):=
 ⟨zdp ho hz,λk=>by
  rw[zii ho hz]
  by_cases c:k∈zs
  ·rw[if_pos c,if_pos c]
  ·rw[if_neg c,if_neg c]
   cases e:look k R with
   | none=>rfl
   | some r=>exact absurd (hR k (zea.1 (by rw[e];rfl))) c⟩
theorem zhu(hn:zaV X E=zs)(hz:zs.Pairwise (·<·))(h0:zeC (zaC X E.D E.since)=0)(h1:zbh (eX X (zaC X E.D E.since).L) zs=0)(hR:∀k∈E.R.map Rc.id,k∈zs):
  Synced X E zs 0 ⟨zc4 (zaC X E.D E.since),zs.filterMap (oX X (zaC X E.D E.since).L),zcN ((zs.filterMap (oX X (zaC X E.D E.since).L)).map Rc.id) E.S,X.S.now,E.n+zs.length⟩:=by
 subst hn;exact .inr (.inr ⟨h0,h1,rfl,rfl,_,zxI (λ_ _ q=>zkA q) hz hR,rfl⟩)
theorem zkQ(hn:zaV X E=[])(h0:zeC (zaC X E.D E.since)=0)(hR:zdy E.R):Synced X E [] 0 ⟨zc4 (zaC X E.D E.since),E.R,zcN (E.R.map Rc.id) E.S,X.S.now,E.n⟩:=
 .inr (.inr ⟨h0,by rw[hn];rfl,hn.symm,rfl,E.R,by rw[hn];exact Wk.nil hR,by rw[hn];rfl⟩)
def m13:Nat->Int:=λi=>if i=3 then 5 else if i=0∨i=5∨i=10 then 65536 else 0
def q13:PT:=(7,m13,2,zI,0,0,false,0)
def zxJ:Sc:=Sc0 9
def zvJ:Sc:=zeD zxJ q13 (-1)
def x132:Sc:=zeD zvJ q13 0
def x133:Sc:=zdG x132
def x134:Sc:=zdG x133
def x135:Sc:=zfS x134 0
def d131:FD:=zaC x132 FD0 0
def r131:List Rc:=[0,1].filterMap (oX x132 d131.L)
def e131:XS:=⟨zc4 d131,r131,zcN (r131.map Rc.id) [],1,2⟩
def d132:FD:=zaC x133 e131.D e131.since
def e132:XS:=⟨zc4 d132,r131,zcN (r131.map Rc.id) e131.S,2,2⟩
def d133:FD:=zaC x135 e132.D e132.since
def r133:List Rc:=[0,1].filterMap (oX x135 d133.L)
def e133:XS:=⟨zc4 d133,r133,zcN (r133.map Rc.id) e132.S,3,4⟩
theorem t131:znp zxJ q13 (-1)=0/\zno zxJ q13 (-1)=0:=by decide+kernel
theorem t132:znp zvJ q13 0=1/\zno zvJ q13 0=0:=by decide+kernel
theorem zAt:zaV x132 XS0=[0,1]/\zeC d131=0/\zbh (eX x132 d131.L) [0,1]=0:=by decide+kernel
theorem t134:zaV x133 e131=[]/\zeC d132=0:=by decide+kernel
theorem t135:deE x134.S 0=0:=by decide+kernel
theorem zzA:zaV x135 e132=[0,1]/\zeC d133=0/\zbh (eX x135 d133.L) [0,1]=0/\(∀k∈e132.R.map Rc.id,k∈([0,1]:List Int)):=by decide+kernel
theorem zAu:r133.map (λr=>(r.id,r.x3))=[(1,5)]/\zaO e133.S 1=1/\zaO e133.S 0= -1:=by decide+kernel
theorem t138:x132.S.now=1/\x133.S.now=2/\x135.S.now=3:=by decide+kernel
theorem zAv:([0,1]:List Int).Pairwise (·<·):=by decide
theorem y131:Synced x132 XS0 [0,1] 0 e131:=zhu (E:=XS0) zAt.1 zAv zAt.2.1 zAt.2.2 (λk h=>by cases h)
theorem zxK:zdy r131:=zdp (λ_ _ q=>zkA q) zAv
theorem y132:Synced x133 e131 [] 0 e132:=by
 have h:=zkQ (X:=x133) (E:=e131) t134.1 t134.2 zxK;rw[t138.2.1]at h;exact h
theorem y133:Synced x135 e132 [0,1] 0 e133:=by
 have h:=zhu (X:=x135) (E:=e132) zzA.1 zAv zzA.2.1 zzA.2.2.1 zzA.2.2.2;rw[t138.2.2]at h;exact h
theorem z132:SX3 x132:=((SX3.zero om).sp _ _).sp _ _
theorem z133:SX3 x133:=z132.ne
theorem z134:SX3 x134:=z133.ne
theorem z135:SX3 x135:=z134.de 0
theorem zAw:x132.S.room<=19/\x133.S.room<=19/\x135.S.room<=19:=of_decide_eq_true oM
theorem b130:BSc zxJ 0:=BSc.zero om
theorem b131:BSc zvJ 2:=b130.sp _ _
theorem b132:BSc x132 4:=b131.sp _ _
theorem b133:BSc x133 6:=b132.ne
theorem b134:BSc x134 8:=b133.ne
theorem b135:BSc x135 10:=b134.de z134.wx _
theorem zzB:EOk x132 XS0:=Or.inl ⟨0,rfl⟩
theorem zzC:EOk x133 e131:=y131.next z132 zzB
theorem k133:EOk x134 e132:=y132.next z133 zzC
theorem k134:EOk x135 e132:=k133.de 0
theorem k135:EOk (zdG x135) e133:=y133.next z135 k134
theorem s130:EBd XS0 0:=⟨Nat.le_refl _,Nat.le_refl _⟩
theorem s131:EBd e131 1:=y131.bd z132 zzB (b132.mono om) s130
theorem s132:EBd e132 2:=y132.bd z133 zzC (b133.mono om) s131
theorem l131:∀p∈e131.S,p.2<9:=y131.below (m:=9) z132 zzB (by decide+kernel) (λp h=>by cases h)
theorem l132:∀p∈e132.S,p.2<9:=y132.below (m:=9) z133 zzC (by decide+kernel) l131
structure Du (EB:World->Nat->(Nat->Prop)->XS->Prop) (XB:World->Nat->(Nat->Prop)->Sc->Prop) (w0 W:World) (g gs:Nat) (F Fs:Nat->Prop) (E:XS) (X:Sc):Prop where
 eb:EB W g F E
 xb:XB W gs Fs X
 ap:∀b,F b->¬Fs b
 be:Bw w0 W
 f0:∀b,F b->w0.heap.size<=b
 f1:∀b,Fs b->w0.heap.size<=b
section
variable {EB:World->Nat->(Nat->Prop)->XS->Prop} {XB:World->Nat->(Nat->Prop)->Sc->Prop} {w0 W W':World} {g gs:Nat} {F Fs:Nat->Prop} {E E':XS} {X X':Sc}
theorem Du.keep(kE:KB EB)(kX:KB XB)(h:Du EB XB w0 W g gs F Fs E X)(hb:Bw W W'):Du EB XB w0 W' g gs F Fs E X:=⟨kE.keep h.eb hb,kX.keep h.xb hb,h.ap,zad h.be hb,h.f0,h.f1⟩
theorem Du.sc(kE:KB EB)(h:Du EB XB w0 W g gs F Fs E X)(hc:ChB XB W W' gs Fs X'):∃kZ,Du EB XB w0 W' g gs F kZ E X'/\(∀b,kZ b->Fs b∨W.heap.size<=b)/\Fr W W' Fs:=by
 obtain⟨kZ,h1,h2,h3⟩:=hc;have hi:=kE.inb _ _ _ _ h.eb;exact⟨kZ,⟨kE.keep_ _ _ _ _ _ h.eb (λb c=>h2.2.2.2.2 b (hi b c) (h.ap b c)),h1,λb c d=>(h3 b d).elim (h.ap b c) (λz=>by have:=hi b c;omega),Fr.below h2 h.be h.f1 h.be.size,h.f0,λb c=>(h3 b c).elim (h.f1 b) (λz=>Nat.le_trans h.be.size z)⟩,h3,h2⟩
theorem Du.sy(h:Du EB XB w0 W g gs F Fs E X)(hc:SyR EB XB W W' g gs F Fs E' X'):∃F' kZ,Du EB XB w0 W' g gs F' kZ E' X'/\(∀b,F' b->F b∨W.heap.size<=b)/\(∀b,kZ b->Fs b∨W.heap.size<=b)/\Fr W W' (λb=>F b∨Fs b):=by
 obtain⟨F',kZ,h1,h2,h3,h4,h5,h6⟩:=hc;exact⟨F',kZ,⟨h1,h2,h6,Fr.below h3 h.be (λb c=>c.elim (h.f0 b) (h.f1 b)) h.be.size,λb c=>(h4 b c).elim (h.f0 b) (λz=>Nat.le_trans h.be.size z),λb c=>(h5 b c).elim (h.f1 b) (λz=>Nat.le_trans h.be.size z)⟩,h4,h5,h3⟩
end
section
variable {XB:World->Nat->(Nat->Prop)->Sc->Prop}
structure R11 (XB:World->Nat->(Nat->Prop)->Sc->Prop) (w:World) (g m:Nat) (v8 v9:Value) (since:Int) (wr:World) (F:Nat->Prop) (X I0:Sc):Prop where
 was:OwnX 15 cNd 205 wr w.heap.size v8 ((alS I0.S).map (zaS I0))
 had:OwnX 24 pl 52 wr w.heap.size v9 ((alS I0.S).map (zby I0.S))
 ow:∀b,v8.ownBlock=some b->¬F b
 oh:∀b,v9.ownBlock=some b->¬F b
 sb:XB wr g F X
 wx:WX I0
 told:ToldX (λx P=>inS I0.S x P) (zak I0.L) since X
 bd:BSc X m
 bel:Bw w wr
 zgT:∀b,F b->w.heap.size<=b
end
theorem zuI:(prog.info? 205).map (λi=>(i.zero,i.size,i.bytes))=some (some (.agg (cNd default).toArray),15,120):=oM
theorem zuJ(n:Nd)(W:World):(Instr.buildSlice 150 1 #[(0,.agg (cNd n).toArray)]).run prog W= .ok (.slice (some ⟨W.heap.size,0,none⟩) 1 1) (W.alloc (.cells (cNd n).toArray 205)):=oM
section
variable {XB:World->Nat->(Nat->Prop)->Sc->Prop}
structure Two (XB:World->Nat->(Nat->Prop)->Sc->Prop) (w4 W:World) (g:Nat) (F:Nat->Prop) (X:Sc) (v8 v9:Value) (L8:List Nd) (L9:List PT):Prop where
 o8:OwnX 15 cNd 205 W w4.heap.size v8 L8
 o9:OwnX 24 pl 52 W w4.heap.size v9 L9
 ne:∀b,v8.ownBlock=some b->v9.ownBlock≠some b
 sb:XB W g F X
 bel:Bw w4 W
 lo:∀b,F b->b<w4.heap.size
structure N11 (XB:World->Nat->(Nat->Prop)->Sc->Prop) (w:World) (g m:Nat) (nw:Int) (wr:World) (F:Nat->Prop) (X:Sc):Prop where
 sb:XB wr g F X
 wx:WX X
 told:ToldX (λx P=>inS X.S x P) (zak X.L) nw X
 bd:BSc X m
 bel:Bw w wr
 zgT:∀b,F b->w.heap.size<=b
theorem zuK{α:Type}{f:Int->α}{L:List Int}{q:Nat}(h:L[q]? =some y):(L.map f).take (q+1)=(L.map f).take q++[f y]:=by
 rw[take_add_one,getElem?_map,h];rfl
end
section
variable {XB:World->Nat->(Nat->Prop)->Sc->Prop}
theorem zAx{since:Int}(hy:y∈chL X.S since):Rg y:=zdm (zee.1 hy).1
theorem zvK(S:St)(since:Int):(chL S since).length<=S.ch.length:=by
 unfold chL;rw[zgc,length_map];exact length_filter_le _ _
theorem zmn(hX:XC XB){w:World}{g:Nat}{F:Nat->Prop}{X:Sc}(sb:XB w g F X)(hW:WX X)(hB:BSc X 900)(since:Int):
  Calls prog 71 #[.pointer (some ⟨g,0,none⟩),.int .i64 since] w λe w'=>∃v,e= .returned v/\OwnX 15 cNd 205 w' w.heap.size v ((chL X.S since).map (zaS X))/\Bw w w':=by
 have H9:=kA (hX.changed w g F X since hW hB sb)
 have Hr:Hid (∀W y,Bw w W->y∈chL X.S since->Calls prog 128 #[.pointer (some ⟨g,0,none⟩),.int .i64 y] W λe w'=>∃Z,e= .returned (.tuple #[.agg (toArray Z),.bool true])/\Z=cNd (zaS X y)/\Bw W w'):=kA (λW y q hy=>by
  have h1:=hX.node W g F X y hW hB (hX.kb.keep sb q) (zAx hy);rw[show zcE X.S y=true from by rw[<-zdY hW.ws];exact (zee.1 hy).1]at h1
  exact h1)
 have Cc:(chL X.S since).length<=900:=by
  have:=zvK X.S since;have:=hB.1;omega
 obtain⟨zs,dW⟩:∃zs,zs=chL X.S since:=⟨_,rfl⟩;rw[<-dW]at H9 Hr Cc ⊢;obtain⟨n,hn⟩:∃n,n=zs.length:=⟨_,rfl⟩;have kJ:=kA hn;rw[<-hn]at Cc;obtain⟨nf,Qy⟩:∃nf,nf=zaS X:=⟨_,rfl⟩;rw[<-Qy]at Hr ⊢;clear dW sb hB Qy hX;go_enter func71,ntmps71;go_wp2_with fail;refine H9.mono ?_;rintro e w1 ⟨v,rfl,⟨ia,icap,rfl,irow,-⟩,b1⟩;have Jq:=kA irow;have Hg:=kA b1;clear irow b1 H9;rw[<-hn]at Jq ⊢;clear hn;go_wp2
 go_loopw [5,7,8,9,14] (λv5 _ _ _ Ti wr=>∃j:Nat,Ti= .int .i64 j/\j<=n/\OwnX 15 cNd 205 wr w1.heap.size v5 ((zs.map nf).take j)/\Bw w1 wr) (λ_ _ _ _ Ti _=>n - (intOf Ti).toNat)
 case atStart=>exact⟨0,rfl,om,OwnX.nil _ _ _ _ _,Below.refl _ _⟩
 case round=>
  obtain⟨j,rfl,hj,ho,hb⟩:=hrel;have HO:=kA ho;have HB:=kA hb;clear ho hb
  by_cases hlt:j<n
  ·have j0:(0:Int)<=(j:Int):=om;have j1:(j:Int)<(n:Int):=om;obtain⟨ib,ioff,y,rfl,hy,cy⟩:=zci (zar Jq HB) hlt;have Jr:=World.block_lt_of_cell? _ _ cy;have HS:=kA (zuK (f:=nf) hy);have Bt:y∈zs:=mem_of_getElem? hy;have rR:Hid (∀W,Bw w W->Calls prog 128 #[.pointer (some ⟨g,0,none⟩),.int .i64 y] W λe w'=>∃Z,e= .returned (.tuple #[.agg (toArray Z),.bool true])/\Z=cNd (nf y)/\Bw W w'):=kA (λW q=>Hr.out W y q Bt);have qg:((zs.map nf).take j).length<=2000:=by rw[length_take];omega
   have rS:=kA (zad Hg HB);have YJ:=rS.size;obtain⟨L8,Js⟩:∃L,L=(zs.map nf).take j:=⟨_,rfl⟩;rw[<-Js]at HO HS qg;obtain⟨nd,DJ⟩:∃nd,nd=nf y:=⟨_,rfl⟩;rw[<-DJ]at rR HS;clear Js DJ hy Bt;go_wp2_with fail;refine (rR _ rS).mono ?_;rintro e w5 ⟨Z,rfl,hZ,b5⟩;have HZ:=kA hZ;have Qz:Hid (NXs Z 205):=kA (by rw[hZ];exact zjp nd);have Jt:Hid (∀W,(Instr.buildSlice 150 1 #[(0,.agg Z.toArray)]).run prog W= .ok (.slice (some ⟨W.heap.size,0,none⟩) 1 1) (W.alloc (.cells Z.toArray 205))):=kA (by rw[hZ];exact zuJ nd);have kj:Bw w5 ((w5.alloc (.cells (cNd n0d).toArray 205)).setCells w5.heap.size 0 Z):=zab Z (zaa _ _) (Nat.le_refl _);have Ju:Hid ((w5.alloc (.cells (cNd n0d).toArray 205)).there w5.heap.size 0 Z.toArray.size):=kA (zae (Blk.new w5 _ _) (by rw[size_toArray,Qz.len];exact Nat.le_refl 15));have Jv:Hid (Blk ((w5.alloc (.cells (cNd n0d).toArray 205)).setCells w5.heap.size 0 Z) w5.heap.size 205 Z.toArray/\OwnX 15 cNd 205 ((w5.alloc (.cells (cNd n0d).toArray 205)).setCells w5.heap.size 0 Z) w1.heap.size u5 L8/\Bw w1 ((w5.alloc (.cells (cNd n0d).toArray 205)).setCells w5.heap.size 0 Z)):=kA ⟨zal (Blk.new w5 _ _) (by rw[Qz.len];rfl),HO.keep (zad b5 kj),zad HB (zad b5 kj)⟩;have Xv:Hid (∀c,u5.ownBlock=some c->c<w5.heap.size):=kA (λc e=>Nat.lt_of_lt_of_le (HO.lt c e).2 b5.size);clear hZ b5 kj cy Jr rR HO HB rS;go_upto_region 6 with (refine wpList_store_mid rfl 205 (.tmp 8) (.tmp 22) rfl w5.heap.size 0 Z.toArray rfl rfl Ju Qz.sizea Qz.onea ?_);refine fin (λW=>Blk W w5.heap.size 205 Z.toArray/\OwnX 15 cNd 205 W w1.heap.size u5 L8/\Bw w1 W) Jv ?_;clear Jv Ju;obtain⟨g14,Jw⟩:∃g,g=w5.heap.size:=⟨_,rfl⟩;rw[<-Jw]at Xv ⊢;rintro W6 ⟨rT,ho,hb⟩;have Bu:=kA rT;have HO:=kA ho;have HB:=kA hb;have MW:=rT.lt;have gh:w1.heap.size<=W6.heap.size:=hb.size;clear rT ho hb Jw Xv
   go_wp2_with (first
    | refine wpList_load_mid rfl 205 (.tmp 8) rfl g14 0 rfl Z _ (zac Bu) underlying205 rfl Qz.size ?_
    | refine zfs rfl 150 205 (.tmp 26) rfl Z rfl Jt ?_
    | (at_builtin;refine zbT rfl (.tmp 25) (.tmp 27) 150 120 (.agg (cNd default).toArray) rfl underlying150 zuI rfl (by decide) (by decide) zft nd (zlL nd) rfl (HO.keep (zaa _ _)) W6.heap.size 1 rfl (by rw[<-HZ.out];exact zac (Blk.new W6 _ _)) om (by simp;omega) ?_))
   intro Tg W7 k1 k2 k3;have Hl:Bw W6 (W6.alloc (.cells Z.toArray 205)):=zaa _ _;have K:Hid (OwnX 15 cNd 205 W7 w1.heap.size Tg ((zs.map nf).take (j+1))/\Bw w1 W7):=kA ⟨by rw[HS.out];exact k1,zaP (zad HB Hl) k2 (λb e=>(HO.lt b e).1)⟩;clear k1 k2 k3 Hl HO HB Bu HS HZ Qz Jt;go_wp2;go_roundw
   case rel=>exact⟨j+1,by go_num,om,K.1,K.2⟩
   case measure=>simp[intOf] <;> omega
  ·obtain rfl:j=n:=om;have j2:¬(j:Int)<(j:Int):=om
   have HF:Hid (OwnX 15 cNd 205 wr w.heap.size u5 (zs.map nf)/\Bw w wr):=kA ⟨by
    have q:=HO.low Hg.size;rw[take_of_length_le (by rw[length_map];have:=kJ.out;omega)]at q
    exact q,zad Hg HB⟩
   go_wp2;go_ret;exact⟨u5,rfl,HF.1,HF.2⟩
end
structure AXs (X:List Value) (T:TypeId) (k:Nat):Prop where
 len:X.length=k
 size:(prog.info? T).map (·.size)=some X.length
 sizea:(prog.info? T).map (·.size)=some X.toArray.size
 onea:X.toArray.all (·.oneCell')=true
theorem znY(P:PT):AXs (pl P) 52 24:=⟨zcv _,zaJ _,zbL _,zc8 _⟩
theorem zuL(M:Nat->Int)(s:Bool):AXs (lS M s) 228 13:=⟨rfl,oM,oM,zyY M s⟩
theorem zzi(r:Rc):AXs (cRc r) 92 12:=⟨rfl,zaK r,by rw[size_toArray];exact zaK r,zbV r⟩
theorem zxL(r:Rc)(W:World):(Instr.buildSlice 85 1 #[(0,.agg (cRc r).toArray)]).run prog W= .ok (.slice (some ⟨W.heap.size,0,none⟩) 1 1) (W.alloc (.cells (cRc r).toArray 92)):=zrz r W
theorem zo4{j:Nat}{x:Int}(hx:zs[j]? =some x)(h:∀y∈zs.take j,eo y=0)(he:eo x≠0):zbh eo zs=eo x:=by
 have hj:=(List.getElem?_eq_some_iff.1 hx).1;have hd:zs.drop j=x::zs.drop (j+1):=by
  rw[drop_eq_getElem_cons hj];rw[getElem?_eq_getElem hj]at hx;injection hx with hx;rw[hx]
 have h1:∀ (l m:List Int),(∀y∈l,eo y=0)->zbh eo (l++x::m)=eo x:=by
  intro l
  induction l with
  | nil=>intro m _;rw[nil_append,zdj,if_neg he]
  | cons a l ih=>intro m hl;rw[cons_append,zdj,if_pos (hl a mem_cons_self)];exact ih m (λy hy=>hl y (mem_cons_of_mem _ hy))
 rw[<-take_append_drop j zs,hd];exact h1 _ _ h
section
variable {XB:World->Nat->(Nat->Prop)->Sc->Prop} {FB:World->Nat->(Nat->Prop)->FD->Prop}
theorem zsh(hX:XC XB)(hC:FWE FB){w:World}{g gf gs n cap:Nat}{a:Option Addr}{Fs Ff:Nat->Prop}{X:Sc}{D:FD}{zs:List Int}{o:Int->Option Rc}{eo:Int->Int}(sb:XB w gs Fs X)(fb:FB w gf Ff D)(c0:w.cell? ⟨g,0,none⟩=some (.pointer (some ⟨gf,0,none⟩)))(row:Row w a n zs)(hW:WX X)(hB:BSc X 900)(hD:DOk D)(hl:D.L.length<=300)(hn:n<=1900)(hz:Rgs zs)
  (YG:∀x,oeR (stO D x).wo (zby X.S x) (stO D x).sh=eo x/\(if obR (stO D x).wo (zby X.S x) (stO D x).sh=true then some (zrB x (zby X.S x) (stO D x).wo) else none)=o x):
  Calls prog 75 #[.pointer (some ⟨g,0,none⟩),.pointer (some ⟨gs,0,none⟩),.slice a n cap] w λe w'=>∃v er,e= .returned (.tuple #[v,.int .i64 er])/\er=zbh eo zs/\(er=0->OwnX 12 cRc 92 w' w.heap.size v (zs.filterMap o))/\Bw w w':=by
 have hg:=World.block_lt_of_cell? _ _ c0;have xr:Hid (∀W,Bw w W->W.cell? ⟨g,0,none⟩=some (.pointer (some ⟨gf,0,none⟩))/\g<W.heap.size/\Row W a n zs):=kA (λW q=>⟨zao c0 q,Nat.lt_of_lt_of_le hg q.size,zar row q⟩);have Jj:Hid (∀W x,Bw w W->Calls prog 136 #[.pointer (some ⟨gs,0,none⟩),.int .i64 x] W λe w'=>∃Z b,e= .returned (.tuple #[.agg (toArray Z),.bool b])/\Z=pl (zby X.S x)/\Bw W w'):=kA (λW x q=>(hX.get W gs Fs X x hW hB (hX.kb.keep sb q)).mono (λ_ _ ⟨Z,h1,h2,h3⟩=>⟨Z,_,h1,h2,h3⟩));have Hk:Hid (∀W x,Bw w W->Rg x->Calls prog 137 #[.pointer (some ⟨gf,0,none⟩),.int .i64 x] W λe w'=>∃Z b,e= .returned (.tuple #[.agg (toArray Z),.bool b])/\Z=lS (stO D x).wo (stO D x).sh/\Bw W w'):=kA (λW x q hx=>(hC.state W gf Ff D x hD hl (hC.keep fb q) hx).mono (λ_ _ ⟨Z,h1,h2,h3⟩=>⟨Z,_,h1,h2,h3⟩))
 have xN:Hid (∀W x,Calls prog 138 #[.int .i64 x,.agg (pl (zby X.S x)).toArray,.agg (lS (stO D x).wo (stO D x).sh).toArray] W λe w'=>∃r b,e= .returned (.tuple #[.agg (cRc r).toArray,.bool b,.int .i64 (eo x)])/\(eo x=0->o x=if b=true then some r else none)/\Bw W w'):=kA (λW x=>(zt8 x (zby X.S x) (stO D x).wo (stO D x).sh W).mono (λ_ _ ⟨h1,h2⟩=>by
  obtain⟨q1,q2⟩:=YG x;refine⟨_,_,by rw[h1,q1],λ_=> ?_,h2⟩;rw[<-q2];unfold ovR
  split <;> simp_all))
 obtain⟨pf,rU⟩:∃pf:Int->List Value,pf=λx=>pl (zby X.S x):=⟨_,rfl⟩;obtain⟨sf,rV⟩:∃sf:Int->List Value,sf=λx=>lS (stO D x).wo (stO D x).sh:=⟨_,rfl⟩;have MY:Hid (∀x,AXs (pf x) 52 24):=kA (λx=>by rw[rU];exact znY _);have Vr:Hid (∀x,AXs (sf x) 228 13):=kA (λx=>by rw[rV];exact zuL _ _);have ep:∀x,pl (zby X.S x)=pf x:=λx=>by rw[rU]
 have es:∀x,lS (stO D x).wo (stO D x).sh=sf x:=λx=>by rw[rV]
 simp only[ep,es]at Jj Hk xN;have cC:=kA hz;have kJ:=kA row.1;have xQ:Hid (zs.take n=zs):=kA (take_of_length_le (by rw[row.1];exact Nat.le_refl _));clear hX hC sb fb c0 row hW hB hD hl hz YG ep es rU rV hg;go_enter func75,ntmps75;go_wp2
 go_loopw [8,10,11,12,13,14,15,16,17,20] (λv8 _ _ _ _ _ _ _ _ v20 wr=>∃j:Nat,v20= .int .i64 j/\j<=n/\(∀y∈zs.take j,eo y=0)/\OwnX 12 cRc 92 wr w.heap.size v8 ((zs.take j).filterMap o)/\Bw w wr) (λ_ _ _ _ _ _ _ _ _ v20 _=>n - (intOf v20).toNat)
 case atStart=>exact⟨0,rfl,om,λy hy=>(by cases hy),OwnX.nil _ _ _ _ _,Below.refl _ _⟩
 case round=>
  obtain⟨j,rfl,hj,Bv,ho,hb⟩:=hrel;have VL:=kA Bv;have HO:=kA ho;have HB:=kA hb;clear Bv ho hb
  by_cases hlt:j<n
  ·have j0:(0:Int)<=(j:Int):=om;have j1:(j:Int)<(n:Int):=om;obtain⟨ib,ioff,y,rfl,hy,cy⟩:=zci (xr wr HB).2.2 hlt;have Jr:=World.block_lt_of_cell? _ _ cy;have HY:=kA hy;have By:Rg y:=cC.out y (mem_of_getElem? hy);have YS:=kA By;clear hy By;go_wp2_with fail;refine (Jj _ y HB).mono ?_;rintro e w5 ⟨Z,zb,rfl,hZ,b5⟩;have HZ:=kA hZ;have QA:Hid (AXs Z 52 24):=kA (by rw[hZ];exact MY y);have kj:Bw w5 ((w5.alloc (.cells Z24.toArray 52)).setCells w5.heap.size 0 Z):=zab Z (zaa _ _) (Nat.le_refl _);have Yv:Hid ((w5.alloc (.cells Z24.toArray 52)).there w5.heap.size 0 Z.toArray.size):=kA (zae (Blk.new w5 _ _) (by rw[size_toArray,QA.len];exact Nat.le_refl 24));have Kk:Hid (Blk ((w5.alloc (.cells Z24.toArray 52)).setCells w5.heap.size 0 Z) w5.heap.size 52 Z.toArray/\Bw wr ((w5.alloc (.cells Z24.toArray 52)).setCells w5.heap.size 0 Z)):=kA ⟨zal (Blk.new w5 _ _) (by rw[QA.len];rfl),zad b5 kj⟩;clear hZ b5 kj cy Jr;go_upto_region 6 with (refine wpList_store_mid rfl 52 (.tmp 11) (.tmp 28) rfl w5.heap.size 0 Z.toArray rfl rfl Yv QA.sizea QA.onea ?_);refine fin (λW=>Blk W w5.heap.size 52 Z.toArray/\Bw wr W) Kk ?_;clear Kk Yv;obtain⟨g11,YT⟩:∃g,g=w5.heap.size:=⟨_,rfl⟩;rw[<-YT];rintro W1 ⟨ql,Hv⟩;have Jx:=kA ql;have Hg:=kA Hv;obtain⟨c0,hg,-⟩:=xr.out W1 (zad HB Hv);clear ql Hv YT;go_wp2_with fail;refine (Hk _ y (zad HB Hg) YS).mono ?_;rintro e w6 ⟨Y,yb,rfl,hY,b6⟩;have Z2:=kA hY;have QB:Hid (AXs Y 228 13):=kA (by rw[hY];exact Vr y);have kj:Bw w6 ((w6.alloc (.cells (lS (λ_=>0) false).toArray 228)).setCells w6.heap.size 0 Y):=zab Y (zaa _ _) (Nat.le_refl _);have Q9:Hid ((w6.alloc (.cells (lS (λ_=>0) false).toArray 228)).there w6.heap.size 0 Y.toArray.size):=kA (zae (Blk.new w6 _ _) (by rw[size_toArray,QB.len];exact Nat.le_refl 13));have dX:Hid (Blk ((w6.alloc (.cells (lS (λ_=>0) false).toArray 228)).setCells w6.heap.size 0 Y) w6.heap.size 228 Y.toArray/\Blk ((w6.alloc (.cells (lS (λ_=>0) false).toArray 228)).setCells w6.heap.size 0 Y) g11 52 Z.toArray/\Bw wr ((w6.alloc (.cells (lS (λ_=>0) false).toArray 228)).setCells w6.heap.size 0 Y)):=kA ⟨zal (Blk.new w6 _ _) (by rw[QB.len];rfl),(Jx.keep (zad b6 kj)),zad Hg (zad b6 kj)⟩;clear hY b6 kj c0 hg Jx Hg;go_upto_region 7 with (refine wpList_store_mid rfl 228 (.tmp 13) (.tmp 38) rfl w6.heap.size 0 Y.toArray rfl rfl Q9 QB.sizea QB.onea ?_);refine fin (λW=>Blk W w6.heap.size 228 Y.toArray/\Blk W g11 52 Z.toArray/\Bw wr W) dX ?_;clear dX Q9;obtain⟨g13,qm⟩:∃g,g=w6.heap.size:=⟨_,rfl⟩;rw[<-qm];rintro W2 ⟨Bz,ql,Kd⟩;have BA:=kA Bz;have Jx:=kA ql;have Hm:=kA Kd;clear Bz ql Kd qm;have zL:Hid (∀W,Calls prog 138 #[.int .i64 y,.agg Z.toArray,.agg Y.toArray] W λe w'=>∃r b,e= .returned (.tuple #[.agg (cRc r).toArray,.bool b,.int .i64 (eo y)])/\(eo y=0->o y=if b=true then some r else none)/\Bw W w'):=kA (λW=>by rw[HZ.out,Z2.out];exact xN W y)
   go_wp2_with (first
    | refine wpList_load_mid rfl 52 (.tmp 11) rfl g11 0 rfl Z _ (zac Jx) underlying52 rfl QA.size ?_
    | refine wpList_load_mid rfl 228 (.tmp 13) rfl g13 0 rfl Y _ (zac BA) underlying228 rfl QB.size ?_)
   refine (zL _).mono ?_;rintro e w7 ⟨r,rb,rfl,BB,b7⟩;have Qi:=kA BB;have cZ:=kA (zzi r);have YU:=kA (zxL r);obtain⟨V,hV⟩:∃V,V=cRc r:=⟨_,rfl⟩;have HV:=kA hV;rw[<-hV]at cZ YU ⊢;have kj:Bw w7 ((w7.alloc (.cells (cRc zRc).toArray 92)).setCells w7.heap.size 0 V):=zab V (zaa _ _) (Nat.le_refl _);have ZG:Hid ((w7.alloc (.cells (cRc zRc).toArray 92)).there w7.heap.size 0 V.toArray.size):=kA (zae (Blk.new w7 _ _) (by rw[size_toArray,cZ.len];exact Nat.le_refl 12));have Jy:Hid (Blk ((w7.alloc (.cells (cRc zRc).toArray 92)).setCells w7.heap.size 0 V) w7.heap.size 92 V.toArray/\Bw wr ((w7.alloc (.cells (cRc zRc).toArray 92)).setCells w7.heap.size 0 V)):=kA ⟨zal (Blk.new w7 _ _) (by rw[cZ.len];rfl),zad Hm (zad b7 kj)⟩;clear BB hV b7 kj Jx BA Hm zL HZ Z2 QA QB;go_upto_region 8 with (refine wpList_store_mid rfl 92 (.tmp 15) (.tmp 45) rfl w7.heap.size 0 V.toArray rfl rfl ZG cZ.sizea cZ.onea ?_);refine fin (λW=>Blk W w7.heap.size 92 V.toArray/\Bw wr W) Jy ?_;clear Jy ZG;obtain⟨g15,xZ⟩:∃g,g=w7.heap.size:=⟨_,rfl⟩;rw[<-xZ];rintro W3 ⟨yn,KL⟩;have Yc:=kA yn;have dq:=kA KL;have MZ:=yn.lt;have mh:w.heap.size<=W3.heap.size:=Nat.le_trans HB.size KL.size;clear yn KL xZ;obtain⟨ey,rW⟩:∃ey,ey=eo y:=⟨_,rfl⟩;have yo:=kA rW;rw[<-rW]at Qi ⊢;clear rW
   by_cases he:ey=0
   ·subst he;have Co:=kA (Qi rfl)
    have jG:Hid (∀z∈zs.take (j+1),eo z=0):=kA (λz hz=>by
     rw[take_add_one,HY.out]at hz;rcases mem_append.1 hz with m | m
     ·exact VL z m
     ·have e:z=y:=by simpa using m
      rw[e];exact yo.symm)
    have db:=kA (zxE o HY);rw[Co.out]at db;have qg:((zs.take j).filterMap o).length<=2000:=by
     have h1:=length_filterMap_le o (zs.take j);rw[length_take]at h1;omega
    obtain⟨L8,Js⟩:∃L,L=(zs.take j).filterMap o:=⟨_,rfl⟩;rw[<-Js]at HO db qg;clear Js VL yo Qi Co
    cases rb with
    | true=>
     rw[if_pos rfl]at db
     go_wp2_with (first
      | refine wpList_load_mid rfl 92 (.tmp 15) rfl g15 0 rfl V _ (zac Yc) underlying92 rfl cZ.size ?_
      | refine zew rfl 85 92 (.tmp 53) rfl V rfl YU ?_
      | (at_builtin;refine zbT rfl (.tmp 52) (.tmp 54) 85 96 (.agg (cRc zRc).toArray) rfl underlying85 zcA rfl (by decide) (by decide) zaz r (zcM r) rfl ((HO.keep dq).keep (zaa _ _)) W3.heap.size 1 rfl (by rw[<-HV.out];exact zac (Blk.new W3 _ _)) qg (by simp;omega) ?_))
     intro v' W4 k1 k2 k3;have K:Hid (OwnX 12 cRc 92 W4 w.heap.size v' ((zs.take (j+1)).filterMap o)/\Bw w W4):=kA ⟨by rw[db.out];exact k1,zaP (zad (zad HB dq) (zaa _ _)) k2 (λb e=>(HO.lt b e).1)⟩;clear k1 k2 k3 HO HB dq Yc db cZ YU HV;go_wp2;go_roundw
     case rel=>exact⟨j+1,by go_num,om,jG.out,K.1,K.2⟩
     case measure=>simp[intOf] <;> omega
    | false=>
     rw[if_neg (by decide)]at db;have K:Hid (OwnX 12 cRc 92 W3 w.heap.size u8 ((zs.take (j+1)).filterMap o)/\Bw w W3):=kA ⟨by rw[db.out];exact (append_nil L8).symm ▸ HO.out.keep dq.out,zad HB.out dq.out⟩;clear HO HB dq Yc db cZ YU HV;go_wp2;go_roundw
     case rel=>exact⟨j+1,by go_num,om,jG.out,K.1,K.2⟩
     case measure=>simp[intOf] <;> omega
   ·have Kq:Hid (ey=zbh eo zs/\Bw w W3):=kA ⟨by
     rw[zo4 HY VL (by rw[<-yo.out];exact he)]
     exact yo.out,zad HB dq⟩
    have dH:=kA he;go_wp2;go_ret2;exact⟨_,ey,rfl,Kq.1,λc=>absurd c dH,Kq.2⟩
  ·obtain rfl:j=n:=om;have j2:¬(j:Int)<(j:Int):=om
   have HF:Hid (0=zbh eo zs/\OwnX 12 cRc 92 wr w.heap.size u8 (zs.filterMap o)/\Bw w wr):=kA ⟨by
    have h1:=VL.out;rw[xQ.out]at h1;exact (zh8.2 h1).symm,by
    have q:=HO.out;rw[xQ.out]at q
    exact q,HB⟩
   go_wp2;go_ret2;exact⟨u8,0,rfl,HF.1,λ_=>HF.2.1,HF.2.2⟩
end
theorem zAy:pl q13=[.int .i64 7,.int .i64 65536,.int .i64 0,.int .i64 0,.int .i64 5,.int .i64 0,.int .i64 65536,.int .i64 0,.int .i64 0,.int .i64 0,.int .i64 0,.int .i64 65536,.int .i64 0,.int .i64 2,.int .i64 0,.int .i64 0,.int .i64 0,.int .i64 0,.int .i64 0,.int .i64 0,.int .i64 0,.int .i64 0,.bool false,.int .i64 0]:=by rfl
section
variable {EB:World->Nat->(Nat->Prop)->XS->Prop} {XB:World->Nat->(Nat->Prop)->Sc->Prop}
theorem zsi(hE:EC EB XB){w0 W:World}{g gs:Nat}{F Fs:Nat->Prop}{E:XS}{X:Sc}(h:Du EB XB w0 W g gs F Fs E X)(hS:SX3 X)(hk:EOk X E)(hB:BSc X 250)(hb:EBd E 100)(hl:∀p∈E.S,p.2<256)(qn:X.S.room<=19):
  Calls prog 13 #[.pointer (some ⟨g,0,none⟩),.pointer (some ⟨gs,0,none⟩)] W λe w'=>∃a n cap zs er E' F' kZ,e= .returned (.tuple #[.slice a n cap,.int .i64 er])/\n=zs.length/\Row w' a n zs/\Synced X E zs er E'/\Du EB XB w0 w' g gs F' kZ E' (zdG X)/\(∀b,F' b->F b∨W.heap.size<=b)/\(∀b,kZ b->Fs b∨W.heap.size<=b)/\Fr W w' (λb=>F b∨Fs b)/\(n=0∨∀ad,a=some ad->W.heap.size<=ad.block):=by
 refine (hE.sync W g F E gs Fs X h.eb h.xb h.ap hS hk hB hb hl qn).mono ?_;rintro e w' ⟨v,zs,er,E',rfl,⟨a,cap,rfl,row,Kj⟩,hs,hy⟩;obtain⟨F',kZ,k1,k2,k3,k4⟩:=h.sy hy;exact⟨a,zs.length,cap,zs,er,E',F',kZ,rfl,rfl,row,hs,k1,k2,k3,k4,Kj⟩
theorem zjr(hE:EC EB XB){w0 W:World}{g gs:Nat}{F Fs:Nat->Prop}{E E1:XS}{X:Sc}{zs:List Int}{er:Int}(h:Du EB XB w0 W g gs F Fs E X)(hS:SX3 X)(hk:EOk X E)(hB:BSc X 250)(hb:EBd E 100)(hl:∀p∈E.S,p.2<256)(qn:X.S.room<=19)(hy:Synced X E zs er E1):
  Calls prog 13 #[.pointer (some ⟨g,0,none⟩),.pointer (some ⟨gs,0,none⟩)] W λe w'=>∃a cap F' kZ,e= .returned (.tuple #[.slice a zs.length cap,.int .i64 er])/\Du EB XB w0 w' g gs F' kZ E1 (zdG X):=by
 refine (zsi hE h hS hk hB hb hl qn).mono ?_;rintro e w' ⟨a,n,cap,GA,GB,E',F',kZ,rfl,rfl,row,hs,k1,-,-,-,-⟩;obtain⟨rfl,rfl,rfl⟩:=hs.one hy;exact⟨a,cap,F',kZ,rfl,k1⟩
theorem zuM:∃r,r133=[r]/\r.id=1/\r.x3=5:=by
 have h:=zAu.1
 cases c:r133 with
 | nil=>rw[c]at h;cases h
 | cons r l=>
  rw[c,map_cons]at h;injection h with h1 h2;injection h1 with h3 h4;exact⟨r,by rw[List.map_eq_nil_iff.1 h2],h3,h4⟩
theorem zmo(hX:XC XB)(hE:EC EB XB)(w:World):Calls prog 8 #[] w λe w'=>e= .returned (.bool true)/\Bw w w':=by
 have Di:=kA (hX.new w 9 om);have CK:=kA (zpS 5 0 0)
 have kW:Hid (∀u gs Fs,XB u gs Fs zxJ->Calls prog 28 #[.pointer (some ⟨gs,0,none⟩),.agg (pl q13).toArray,.int .i64 (-1)] u λe w'=>e= .returned (.tuple #[.int .i64 0,.int .i64 0])/\ChB XB u w' gs Fs zvJ):=kA (λu gs Fs h=>by
  have q:=hX.spawn u gs Fs zxJ q13 (-1) (WX.zero om) (b130.mono om) h (by decide);rw[t131.1,t131.2]at q
  exact q)
 have dC:Hid (∀u gs Fs,XB u gs Fs zvJ->Calls prog 28 #[.pointer (some ⟨gs,0,none⟩),.agg (pl q13).toArray,.int .i64 0] u λe w'=>e= .returned (.tuple #[.int .i64 1,.int .i64 0])/\ChB XB u w' gs Fs x132):=kA (λu gs Fs h=>by
  have q:=hX.spawn u gs Fs zvJ q13 0 ((WX.zero (r:=9) om).sp _ _) (b131.mono om) h (by decide);rw[t132.1,t132.2]at q
  exact q)
 have yj:=kA hE.new;have yi:Hid (∀W g gs F Fs,Du EB XB w W g gs F Fs XS0 x132->Calls prog 13 #[.pointer (some ⟨g,0,none⟩),.pointer (some ⟨gs,0,none⟩)] W λe w'=>∃a cap F' kZ,e= .returned (.tuple #[.slice a 2 cap,.int .i64 0])/\Du EB XB w w' g gs F' kZ e131 x133):=kA (λW g gs F Fs h=>zjr hE h z132 zzB (b132.mono om) (s130.mono om) (λp q=>by cases q) zAw.1 y131);have QC:Hid (∀W g gs F Fs,Du EB XB w W g gs F Fs e131 x133->Calls prog 13 #[.pointer (some ⟨g,0,none⟩),.pointer (some ⟨gs,0,none⟩)] W λe w'=>∃a cap F' kZ,e= .returned (.tuple #[.slice a 0 cap,.int .i64 0])/\Du EB XB w w' g gs F' kZ e132 x134):=kA (λW g gs F Fs h=>zjr hE h z133 zzC (b133.mono om) (s131.mono om) (λp q=>by have:=l131 p q;omega) zAw.2.1 y132)
 have Ya:Hid (∀W g gs F Fs,Du EB XB w W g gs F Fs e132 x134->Calls prog 29 #[.pointer (some ⟨gs,0,none⟩),.int .i64 0] W λe w'=>e= .returned (.int .i64 0)/\∃kZ,Du EB XB w w' g gs F kZ e132 x135):=kA (λW g gs F Fs h=>by
  have q:=hX.despawn W gs Fs x134 0 z134.wx (b134.mono om) h.xb (by decide);rw[t135]at q;refine q.mono ?_;rintro e w' ⟨rfl,k⟩;obtain⟨kZ,k1,-,-⟩:=h.sc hE.kb k
  exact⟨rfl,kZ,k1⟩)
 have Jz:Hid (∀W g gs F Fs,Du EB XB w W g gs F Fs e132 x135->Calls prog 13 #[.pointer (some ⟨g,0,none⟩),.pointer (some ⟨gs,0,none⟩)] W λe w'=>∃a cap F',e= .returned (.tuple #[.slice a 2 cap,.int .i64 0])/\EB w' g F' e133/\Bw w w'):=kA (λW g gs F Fs h=>(zjr hE h z135 k134 (b135.mono om) (s132.mono om) (λp q=>by have:=l132 p q;omega) zAw.2.2 y133).mono (λe w' ⟨a,cap,F',kZ,q1,q2⟩=>⟨a,cap,F',q1.trans rfl,q2.eb,q2.be⟩))
 have Yu:Hid (∀W g F,EB W g F e133->Calls prog 20 #[.pointer (some ⟨g,0,none⟩)] W λe w'=>∃b off cap,e= .returned (.slice (some ⟨b,off,none⟩) 1 cap)/\w'.cell? ⟨b,off,none⟩=some (.int .i64 1)/\w'.cell? ⟨b,off+9,none⟩=some (.int .i64 5)/\b<w'.heap.size/\EB w' g F e133/\Bw W w'):=kA (λW g F h=>by
  obtain⟨r,hr,h1,h5⟩:=zuM;have BC:e133.R=[r]:=hr;refine (hE.records W g F e133 h (by rw[BC];show 1<=2000;omega)).mono ?_;rintro e w' ⟨v,rfl,ho,hb⟩;obtain⟨a,cap,rfl,_,_,row⟩:=ho.row zaz;rw[BC]at row ⊢;obtain⟨b,off,x,rfl,Ho,hx,de⟩:=row.at_ (i:=0) (by show 0<1;omega);have hx':r=x:=by simpa using hx
  subst hx';have c0:=de 0 _ rfl;have c9:=de 9 _ rfl;rw[Nat.zero_mul,Nat.add_zero]at c0 c9
  exact⟨b,off,cap,rfl,by rw[<-h1];exact c0,by rw[<-h5];exact c9,Ho,hE.kb.keep h hb,hb⟩)
 have Za:SI e133.S:=(k135).si
 have D6:Hid (∀W g F,EB W g F e133->Calls prog 22 #[.pointer (some ⟨g,0,none⟩),.int .i64 1] W λe w'=>e= .returned (.int .i64 1)/\EB w' g F e133/\Bw W w'):=kA (λW g F h=>by
  have q:=hE.slot W g F e133 1 h Za (by decide);rw[zAu.2.1]at q
  exact q.mono (λe w' ⟨q1,q2⟩=>⟨q1,hE.kb.keep h q2,q2⟩))
 have D8:Hid (∀W g F,EB W g F e133->Calls prog 22 #[.pointer (some ⟨g,0,none⟩),.int .i64 0] W λe w'=>e= .returned (.int .i64 (-1))/\EB w' g F e133/\Bw W w'):=kA (λW g F h=>by
  have q:=hE.slot W g F e133 0 h Za (by decide);rw[zAu.2.2]at q
  exact q.mono (λe w' ⟨q1,q2⟩=>⟨q1,hE.kb.keep h q2,q2⟩))
 have Hk:Hid (∀W g F,EB W g F e133->Calls prog 21 #[.pointer (some ⟨g,0,none⟩)] W λe w'=>e= .returned (.int .i64 4)/\Bw W w'):=kA (λW g F h=>hE.steps W g F e133 h);have VM:=kA hX.kb;have Vx:=kA hE.kb;have Zk:=kA (znY q13);obtain⟨QQ,rY⟩:∃QQ,QQ=pl q13:=⟨_,rfl⟩;rw[<-rY]at kW dC Zk;have BE:=kA (rY.trans zAy);obtain⟨T0,rZ⟩:∃T,T=Sc0 9:=⟨_,rfl⟩;have JA:zxJ=T0:=rZ.symm;rw[<-rZ]at Di;rw[JA]at kW;generalize zvJ=T1 at kW dC;generalize x132=T2 at dC yi;generalize x133=T3 at yi QC;generalize x134=T4 at QC Ya;generalize x135=T5 at Ya Jz;obtain⟨A0,JB⟩:∃A,A=XS0:=⟨_,rfl⟩;rw[<-JB]at yj yi;generalize e131=A1 at yi QC;generalize e132=A2 at QC Ya Jz;generalize e133=A3 at Jz Yu D6 D8 Hk Za;clear hX hE Za rY rZ JA JB;go_enter func8,ntmps8;go_wp2_with fail;refine Di.mono ?_;rintro e w1 ⟨gs,Fs,rfl,sb,hF,b1⟩;have Yd:=kA sb;have HB:=kA (And.intro b1 (And.intro hF b1.size));clear sb hF b1 Di;go_wp2_with fail;refine (CK _).mono ?_;rintro e w2 ⟨rfl,b2⟩;have kj:Bw w2 ((w2.alloc (.cells Z24.toArray 52)).setCells w2.heap.size 0 QQ):=zab QQ (zaa _ _) (Nat.le_refl _);have ZG:Hid ((w2.alloc (.cells Z24.toArray 52)).there w2.heap.size 0 QQ.toArray.size):=kA (zae (Blk.new w2 _ _) (by rw[size_toArray,Zk.len];exact Nat.le_refl 24));have Jy:Hid (Blk ((w2.alloc (.cells Z24.toArray 52)).setCells w2.heap.size 0 QQ) w2.heap.size 52 QQ.toArray/\Bw w1 ((w2.alloc (.cells Z24.toArray 52)).setCells w2.heap.size 0 QQ)):=kA ⟨zal (Blk.new w2 _ _) (by rw[Zk.len];rfl),zad b2 kj⟩;have JC:Hid (¬Fs w2.heap.size):=kA (λc=>by have:=VM.inb _ _ _ _ Yd _ c;have:=b2.size;omega);clear b2 kj CK;go_upto_region 3 with (refine wpList_store_mid rfl 52 (.tmp 3) (.tmp 22) rfl w2.heap.size 0 QQ.toArray rfl (by rw[BE.out];rfl) ZG Zk.sizea Zk.onea ?_);refine fin (λW=>Blk W w2.heap.size 52 QQ.toArray/\Bw w1 W) Jy ?_;clear Jy ZG;obtain⟨g3,KO⟩:∃g3,g3=w2.heap.size:=⟨_,rfl⟩;rw[<-KO]at JC ⊢;rintro W3 ⟨k3,KL⟩;have K3:=kA k3;replace Yd:=kA (VM.keep Yd KL);replace HB:=kA (And.intro (zad HB.1 KL) (And.intro HB.2.1 (Nat.le_trans HB.2.2 KL.size)));clear k3 KL KO
 go_wp2_with (first
  | refine wpList_load_mid rfl 52 (.tmp 3) rfl g3 0 rfl QQ _ (zac K3) underlying52 rfl Zk.size ?_)
 refine (kW _ gs Fs Yd).mono ?_;rintro e w4 ⟨rfl,ch⟩
 replace K3:=kA (by
  obtain⟨F',q1,q2,q3⟩:=ch
  exact K3.same (q2.2.2.2.2 g3 K3.lt JC):Hid (Blk w4 g3 52 QQ.toArray))
 obtain⟨DZ,sb,hb⟩:=ch.step HB.1 HB.2.1 HB.2.2;replace Yd:=kA sb;replace HB:=kA hb;clear ch sb hb kW JC
 go_wp2_with (first
  | refine wpList_load_mid rfl 52 (.tmp 3) rfl g3 0 rfl QQ _ (zac K3) underlying52 rfl Zk.size ?_)
 refine (dC _ gs DZ Yd).mono ?_;rintro e w5 ⟨rfl,ch⟩;obtain⟨yD,sb,hb⟩:=ch.step HB.1 HB.2.1 HB.2.2;replace Yd:=kA sb;replace HB:=kA hb;clear ch sb hb dC K3 Zk BE;go_wp2_with fail;refine (yj _).mono ?_;rintro e w6 ⟨g,F,rfl,CL,hF,b6⟩;have Zl:Hid (Du EB XB w w6 g gs F yD A0 T2):=kA ⟨CL,VM.keep Yd b6,λb c d=>by have:=hF b c;have:=VM.inb _ _ _ _ Yd b d;omega,zad HB.1 b6,λb c=>Nat.le_trans HB.2.2 (hF b c),HB.2.1⟩;clear CL hF b6 Yd HB yj;go_wp2_with fail;refine (yi _ _ _ _ _ Zl).mono ?_;rintro e w7 ⟨a1,c1,F1,GD,rfl,h⟩;replace Zl:=kA h;clear h yi;go_wp2_with fail;refine (QC _ _ _ _ _ Zl).mono ?_;rintro e w8 ⟨a2,c2,F2,GF,rfl,h⟩;replace Zl:=kA h;clear h QC;go_wp2_with fail;refine (Ya _ _ _ _ _ Zl).mono ?_;rintro e w9 ⟨rfl,GG,h⟩;replace Zl:=kA h;clear h Ya;go_wp2_with fail;refine (Jz _ _ _ _ _ Zl).mono ?_;rintro e vV ⟨a3,c3,F3,rfl,CL,hb⟩;have Zm:=kA CL;have HB:=kA hb;clear CL hb Jz Zl;go_wp2_with fail;refine (Yu _ _ _ Zm).mono ?_;rintro e yE ⟨rb,roff,rcap,rfl,k1,k9,Qp,CL,hb⟩;replace Zm:=kA CL;replace HB:=kA (zad HB hb);clear CL hb Yu;go_wp2_with fail;refine (D6 _ _ _ Zm).mono ?_;rintro e vW ⟨rfl,CL,hb⟩;replace Zm:=kA CL;replace HB:=kA (zad HB hb);clear CL hb D6 k1 k9 Qp;go_wp2_with fail;refine (D8 _ _ _ Zm).mono ?_;rintro e Yj ⟨rfl,CL,hb⟩;replace Zm:=kA CL;replace HB:=kA (zad HB hb);clear CL hb D8;go_wp2_with fail;refine (Hk _ _ _ Zm).mono ?_;rintro e Ey ⟨rfl,hb⟩;replace HB:=kA (zad HB hb);clear hb Hk Zm;go_wp2;go_ret;exact⟨rfl,HB⟩
end
open Go.ChangeShapes Go.WideShapes Go.ChangeAt Go.RowKit Go.Deep
instance:Inhabited A8:=⟨⟨0,0,false,0,zT,none,0,0,[]⟩⟩
section
variable {H:Type} {enc:TypeId × Value->H} {w:World} {base:Nat} {held:Bool}
theorem zmp{fuel:Nat}{x:DataW H × List MemPlace}(h:DataW.trod enc prog w base (λ_=>true) held fuel 53 cs=some x):∃a len cap zs,cs=[.slice a len cap]/\Row w a len zs:=by
 rcases open_ints underlying53 underlying244 oM h with ⟨hcs,_⟩ | ⟨ad,l,c,zs,hcs,_,hl,hm,hz,_,hcell,gj⟩
 ·exact⟨none,0,0,[],hcs,rfl,om,.inl rfl⟩
 ·unfold maxLen at hm;simp only[if_true]at hz;refine⟨some ad,l,c,zs.take l,hcs,by rw[length_take];omega,om,?_⟩
  by_cases h0:l=0
  ·exact .inl h0
  ·obtain⟨b,off,spot⟩:=ad;have yp:spot=none:=by simpa[Addr.add] using World.cell?_spot (hcell 0 om)
   subst yp;refine .inr ⟨b,off,rfl,λi hi=> ?_⟩;have:=hcell i om;rw[Addr.add_mid]at this;rw[this];simp[hi]
end
end Go.Proofs.YtlibdcmcbinfnaaGreat
namespace Go.Proofs.YtlibdcmcbinfnaaGreat.storeTold
open _root_.Go.Proofs.Tryz List Nat
theorem own:ownKnob prog.godebug=none:=oM
end Go.Proofs.YtlibdcmcbinfnaaGreat.storeTold
namespace Go.Proofs.YtlibdcmcbinfnaaGreat
open _root_.Go.Proofs.Tryz List Nat
open Go.ChangeShapes Go.WideShapes Go.ChangeAt Go.RowKit Go.Deep
instance:Inhabited A11:=⟨⟨0,0,0,zT,none,0,0,[]⟩⟩
section
variable {H:Type} {enc:TypeId × Value->H} {w:World} {base:Nat} {held:Bool}
theorem zo5{fuel:Nat}{cs:List Value}{x:DataW H × List MemPlace}(hl:cs.length=28)(h:DataW.trod enc prog w base (λ_=>true) held fuel 55 cs=some x):∃a:A11,cs=c11 a/\ok11 w a:=by
 obtain⟨xs,n,_,_,_,CO,hx⟩:=DataW.trod_struct underlying55 h;have ZD:xs.length=5:=CO;have Yq:prog.cellsOf 5=1:=oM;have f0:DataW.trod enc prog w base (λ_=>true) held n 5 ((cs.drop 0).take 1)=some (xs[0]'(by omega)):=by
  have:=(hx 0 _ rfl).trans (getElem?_eq_getElem (show 0<xs.length by omega));exact (congrArg (λc=>DataW.trod enc prog w base (λ_=>true) held n 5 ((cs.drop 0).take c)) Yq.symm).trans this
 have f1:DataW.trod enc prog w base (λ_=>true) held n 5 ((cs.drop 1).take 1)=some (xs[1]'(by omega)):=by
  have:=(hx 1 _ rfl).trans (getElem?_eq_getElem (show 1<xs.length by omega));exact (congrArg (λc=>DataW.trod enc prog w base (λ_=>true) held n 5 ((cs.drop 1).take c)) Yq.symm).trans this
 have f2:DataW.trod enc prog w base (λ_=>true) held n 5 ((cs.drop 2).take 1)=some (xs[2]'(by omega)):=by
  have:=(hx 2 _ rfl).trans (getElem?_eq_getElem (show 2<xs.length by omega));exact (congrArg (λc=>DataW.trod enc prog w base (λ_=>true) held n 5 ((cs.drop 2).take c)) Yq.symm).trans this
 have Yr:prog.cellsOf 52=24:=oM;have f4:DataW.trod enc prog w base (λ_=>true) held n 52 ((cs.drop 3).take 24)=some (xs[3]'(by omega)):=by
  have:=(hx 3 _ rfl).trans (getElem?_eq_getElem (show 3<xs.length by omega));exact (congrArg (λc=>DataW.trod enc prog w base (λ_=>true) held n 52 ((cs.drop 3).take c)) Yr.symm).trans this
 have Ys:prog.cellsOf 53=1:=oM;have f5:DataW.trod enc prog w base (λ_=>true) held n 53 ((cs.drop 27).take 1)=some (xs[4]'(by omega)):=by
  have:=(hx 4 _ rfl).trans (getElem?_eq_getElem (show 4<xs.length by omega));exact (congrArg (λc=>DataW.trod enc prog w base (λ_=>true) held n 53 ((cs.drop 27).take c)) Ys.symm).trans this
 obtain⟨v0,e0,_,w0⟩:=DataW.trod_int underlying5 f0;obtain⟨v1,e1,_,w1⟩:=DataW.trod_int underlying5 f1;obtain⟨v2,e2,_,w2⟩:=DataW.trod_int underlying5 f2;obtain⟨P,hP⟩:=zow (by rw[length_take,length_drop];omega) f4;obtain⟨ka,kl,kc,ks,e5,He⟩:=zmp f5;refine⟨⟨v0,v1,v2,P,ka,kl,kc,ks⟩,?_,(bounds_u8 w0).1,(bounds_u8 w0).2,(bounds_u8 w1).1,(bounds_u8 w1).2,(bounds_u8 w2).1,(bounds_u8 w2).2,He⟩;have d0:cs=(cs.drop 0).take 1++((cs.drop 1).take 1++((cs.drop 2).take 1++((cs.drop 3).take 24++(cs.drop 27).take 1))):=by
  have a5:(cs.drop 27).take 1=cs.drop 27:=take_of_length_le (by rw[length_drop];omega);have st:∀o k,(cs.drop o).take k++cs.drop (o+k)=cs.drop o:=λo k=>by
   have:=take_append_drop k (cs.drop o)
   rwa [drop_drop]at this
  rw[a5,st 3 24,st 2 1,st 1 1,st 0 1,drop_zero]
 rw[d0,e0,e1,e2,hP,e5];rfl
end
end Go.Proofs.YtlibdcmcbinfnaaGreat
namespace Go.Proofs.YtlibdcmcbinfnaaGreat.scenePlays
open _root_.Go.Proofs.Tryz List Nat
theorem own:ownKnob prog.godebug=none:=oM
end Go.Proofs.YtlibdcmcbinfnaaGreat.scenePlays
namespace Go.Proofs.YtlibdcmcbinfnaaGreat
open _root_.Go.Proofs.Tryz List Nat
open Go.RowKit
abbrev S13:=A11 × Bool × Bool
def c13(x:S13):List Value:=c11 x.1++[.bool x.2.1,.bool x.2.2]
theorem zxM(x:S13):(c13 x).length=30:=rfl
def ARow13(w:World)(a:Option Addr)(len:Nat)(xs:List S13):Prop:=xs.length=len/\len<=9223372036854775807/\(len=0∨∃b off,a=some ⟨b,off,none⟩/\b<w.heap.size/\∀i x,xs[i]? =some x->w.rangeAt b (off+i*30) (c13 x)/\ok11 w x.1)
theorem ARow13.at_{w:World}{a:Option Addr}{n:Nat}{xs:List S13}(h:ARow13 w a n xs){i:Nat}(hi:i<n):∃b off x,a=some ⟨b,off,none⟩/\xs[i]? =some x/\w.rangeAt b (off+i*30) (c13 x)/\ok11 w x.1:=by
 obtain⟨h1,h2,h3⟩:=h;rcases h3 with h3 | ⟨b,off,e,hb,hr⟩
 ·omega
 ·have hx:xs[i]? =some (xs[i]'(by omega)):=getElem?_eq_getElem om;exact⟨b,off,_,e,hx,hr i _ hx⟩
theorem zo6(a:Option Addr)(len cap:Nat)(xs:List S13)(w:World)(row:ARow13 w a len xs):
  Calls prog 6 #[.slice a len cap] w λe w'=>∃b,e= .returned (.bool b)/\(b=true->len<=40/\∀x∈xs,x.1.n<=40)/\w=w':=by
 have Hy:=row.2.1;have HL:=kA row.1;have hJ:=kA row;clear row;go_enter func6,ntmps6;go_wp2
 go_loopw [3] (λi wr=>∃j:Nat,j<=len/\j<=41/\i= .int .i64 j/\(∀q x,q<j->xs[q]? =some x->x.1.n<=40)/\wr=w) (λi _=>len - (intOf i).toNat)
 case atStart=>exact⟨0,om,om,rfl,λq x hq=>om,rfl⟩
 case round=>
  obtain⟨j,hj,Qt,rfl,hz,rfl⟩:=hrel;have HZ:=kA hz;clear hz
  by_cases hlt:j<len
  ·have j1:(j:Int)<(len:Int):=om;have j0:(0:Int)<=(j:Int):=om
   by_cases M0:j<=40
   ·have j2:(j:Int)<=40:=om;obtain⟨b,off,x,rfl,hx,hr,Hp⟩:=hJ.at_ hlt;have cx:wr.cell? ⟨b,off+j*30+27,none⟩=some (.slice x.1.a x.1.n x.1.cap):=hr 27 _ rfl;have hb:=World.block_lt_of_cell? _ _ cx;have HX:=kA hx;have YV:=Hp.2.2.2.2.2.2.2.1;clear hr Hp hx;obtain⟨xn,Ra⟩:∃xn,xn=x.1.n:=⟨_,rfl⟩;have M1:=kA Ra;rw[<-Ra]at cx YV;clear Ra
    by_cases hn:xn<=40
    ·have n1:¬(40:Int)<(xn:Int):=om;go_wp2;go_roundw
     case rel=>exact⟨j+1,om,om,by go_num,λq y hq hy=>by
      rcases Nat.lt_succ_iff_lt_or_eq.1 hq with c | c
      ·exact HZ q y c hy
      ·rw[c,HX.out]at hy;injection hy with hy;rw[<-hy,<-M1.out]
       exact hn,by trivial⟩
     case measure=>simp[intOf] <;> omega
    ·have n1:(40:Int)<(xn:Int):=om;go_wp2;go_ret;exact .inl ⟨rfl,rfl⟩
   ·have j2:¬(j:Int)<=40:=om;have M2:¬(len:Int)<=40:=om;go_wp2;go_ret;exact .inl ⟨rfl,rfl⟩
  ·obtain rfl:j=len:=om;go_wp2;go_ret;refine⟨decide ((j:Int)<=40),rfl,λc=> ?_,rfl⟩;have c':(j:Int)<=40:=by simpa using c
   refine⟨om,λx hx=> ?_⟩;obtain⟨q,hq,e⟩:=mem_iff_getElem.1 hx;exact HZ q x (by rw[HL.out]at hq;exact hq) (by rw[<-e];exact getElem?_eq_getElem hq)
open Go.ChangeShapes Go.WideShapes Go.ChangeAt Go.RowKit Go.Deep
section
variable {H:Type} {enc:TypeId × Value->H} {w:World} {base:Nat} {held:Bool}
instance:Inhabited S13:=⟨(default,false,false)⟩
theorem zmq{fuel:Nat}{cs:List Value}{x:DataW H × List MemPlace}(hl:cs.length=30)(h:DataW.trod enc prog w base (λ_=>true) held fuel 57 cs=some x):∃s:S13,cs=c13 s/\ok11 w s.1:=by
 obtain⟨xs,n,_,_,_,CO,hx⟩:=DataW.trod_struct underlying57 h;have ZD:xs.length=3:=CO;have Yq:prog.cellsOf 55=28:=oM;have Dd:prog.cellsOf 4=1:=oM;have f0:DataW.trod enc prog w base (λ_=>true) held n 55 ((cs.drop 0).take 28)=some (xs[0]'(by omega)):=by
  have:=(hx 0 _ rfl).trans (getElem?_eq_getElem (show 0<xs.length by omega));exact (congrArg (λc=>DataW.trod enc prog w base (λ_=>true) held n 55 ((cs.drop 0).take c)) Yq.symm).trans this
 have f1:DataW.trod enc prog w base (λ_=>true) held n 4 ((cs.drop 28).take 1)=some (xs[1]'(by omega)):=by
  have:=(hx 1 _ rfl).trans (getElem?_eq_getElem (show 1<xs.length by omega));exact (congrArg (λc=>DataW.trod enc prog w base (λ_=>true) held n 4 ((cs.drop 28).take c)) Dd.symm).trans this
 have f2:DataW.trod enc prog w base (λ_=>true) held n 4 ((cs.drop 29).take 1)=some (xs[2]'(by omega)):=by
  have:=(hx 2 _ rfl).trans (getElem?_eq_getElem (show 2<xs.length by omega));exact (congrArg (λc=>DataW.trod enc prog w base (λ_=>true) held n 4 ((cs.drop 29).take c)) Dd.symm).trans this
 obtain⟨a,e0,Hp⟩:=zo5 (by rw[length_take,length_drop];omega) f0;obtain⟨b1,e1,_⟩:=DataW.trod_bool underlying4 f1;obtain⟨b2,e2,_⟩:=DataW.trod_bool underlying4 f2;refine⟨(a,b1,b2),?_,Hp⟩;have d0:cs=(cs.drop 0).take 28++((cs.drop 28).take 1++(cs.drop 29).take 1):=by
  have a5:(cs.drop 29).take 1=cs.drop 29:=take_of_length_le (by rw[length_drop];omega);have st:∀o k,(cs.drop o).take k++cs.drop (o+k)=cs.drop o:=λo k=>by
   have:=take_append_drop k (cs.drop o)
   rwa [drop_drop]at this
  rw[a5,st 28 1,st 0 28,drop_zero]
 rw[d0,e0,e1,e2];rfl
theorem zkR{fuel:Nat}{a:Option Addr}{len cap:Nat}{x:DataW H × List MemPlace}(h:DataW.trod enc prog w base (λ_=>true) held fuel 22 [.slice a len cap]=some x):∃As,ARow13 w a len As:=by
 rcases open_slice underlying22 h with ⟨hcs,_⟩ | ⟨ad,l,c,m,n,D,Pl,hcs,_,Yb,hm,Xh,_,hi⟩
 ·simp at hcs;obtain⟨rfl,rfl,rfl⟩:=hcs;exact⟨[],rfl,om,.inl rfl⟩
 ·simp at hcs;obtain⟨rfl,rfl,rfl⟩:=hcs;unfold maxLen at hm;have hC:prog.cellsOf 57=30:=oM;rw[hC]at hi;simp only[if_true]at Xh;subst Xh
  obtain⟨V,hV⟩:=choose_lt (α:=S13) (n:=len) (p:=λi x=>(∀j v,(c13 x)[j]? =some v->w.cell? ((ad.add (i*30)).add j)=some v)/\ok11 w x.1) (λi VN=>by
   obtain⟨GH,hc,ht⟩:=hi i om;obtain⟨_,kh,dp⟩:=World.cells?_some hc;obtain⟨x,hx,hb⟩:=zmq kh ht;refine⟨x,λj v hv=> ?_,hb⟩;have hj:j<30:=by have:=(List.getElem?_eq_some_iff.1 hv).1;rw[zxM]at this;exact this
   rw[dp j hj,hx]
   exact hv)
  refine⟨(range len).map V,by simp,om,?_⟩
  by_cases h0:len=0
  ·exact .inl h0
  ·obtain⟨b,off,spot⟩:=ad;have c0:=(hV 0 om).1 0 _ rfl;have yp:spot=none:=by simpa[Addr.add] using World.cell?_spot c0
   subst yp;have hb:b<w.heap.size:=by
    have:=zpD c0;simpa[add_plain] using this
   refine .inr ⟨b,off,rfl,hb,λi x hx=> ?_⟩;have VN:i<len:=by have:=(List.getElem?_eq_some_iff.1 hx).1;simpa using this
   have e:V i=x:=by
    rw[getElem?_map,getElem?_range VN]at hx;simpa using hx
   rw[<-e];refine⟨λj v hv=> ?_,(hV i VN).2⟩;have:=(hV i VN).1 j v hv;simpa only[add_plain] using this
end
end Go.Proofs.YtlibdcmcbinfnaaGreat
