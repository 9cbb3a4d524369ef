/- Lemmas. -/
import Derived.Test.YtlibdcmcbinfnaaGreatMA42
set_option maxHeartbeats 100000000
set_option maxRecDepth 1000000
namespace Go.Proofs.YtlibdcmcbinfnaaGreat
open _root_.Go.Proofs.Tryz List Nat
open Go.RowKit
variable{D:FD}{x c z:Int}{a:Option Addr}{n cap j:Nat}{ops:Array Oper}{op:Oper}{w:World}{m:Int->Option Nd}{K:List Int}{l:List Nd}{T:FT}
theorem LIf.parR{p:Wp}(hD:DOk D)(h:LIf D p){x y:Int}(hp:zak p.T x=some y):Rg y:=by
 rw[h.par]at hp;obtain⟨n,hn,_,_,e⟩:=zhw.1 (zbp hp);rw[<-e];exact (hD.rg n hn).2
theorem LIf.parMR{p:Wp}(hD:DOk D)(h:LIf D p)(x:Int):Rg (zcg p.T x):=by
 unfold zcg
 cases e:zak p.T x with
 | none=>exact⟨by show _<=(-1:Int);omega,by show (-1:Int)<=_;omega⟩
 | some y=>exact h.parR hD e
theorem zsv{p:Wp}(hD:DOk D)(h:LIf D p)(j:Nat)(y:Int)(hy:(zcR D.L (zah D) p.S j y).isSome=true):y∈D.L.map Nd.id:=by
 rw[<-zi0]
 cases e:elF Nd.id D.L y with
 | some n=>rfl
 | none=>
  unfold zcR at hy;rw[if_neg (λc=>by have:=zbo hD.wf c;rw[e]at this;cases this),h.non y e]at hy
  cases hy
theorem zn1(hD:DOk D):Rgs (zah D):=λx hx=>by
 obtain⟨n,hn,e⟩:=zaN.1 (zbo hD.wf hx);rw[<-e];exact (hD.rg n hn).1
section
variable {w:World} {p:Wp} {D:FD}
theorem zkX(hD:DOk D)(hL:LIf D p)(h:LW w p)(Cb:D.L.length<=900){a:Option Addr}{n cap:Nat}(row:Row w a n (zah D))(ha:Aw (zba p) a n):
  Calls prog 131 #[.pointer (some ⟨p.g,0,none⟩),.slice a n cap] w λe w'=>e= .returned (.int .i64 (zeC D))/\ChL w w' p (wS p (zcR D.L (zah D) p.S n)):=by
 have hn:n<=900:=by have:=zdX hD.wf;have:=row.1;omega
 have Hy:=row.2.1;have Kw:=kA row.1
 have Hk:Hid (ChL w w p (wS p (mkS p.S ((zah D).take 0)))):=kA (by
  have e:wS p (mkS p.S ((zah D).take 0))=p:=by
   unfold wS;rw[take_zero,show mkS p.S []=p.S from by funext x;unfold mkS;rw[if_neg (by simp)]]
  rw[e]
  exact ChL.still h (Below.refl _ _))
 have hJ:Hid (∀u q,ChL w u p q->Row u a n (zah D)):=kA (λu q k=>zbI row ha k.2.1)
 have dS:Hid (∀u j z,(zah D)[j]? =some z->ChL w u p (wS p (mkS p.S ((zah D).take j)))->u.cell? ⟨p.g,2,none⟩=some (.map (some p.gs))/\p.g<u.heap.size/\∃w1,(∀ty,(Builtin.delete_ #[198,81] ty #[.map (some p.gs),.int .i64 z]).run prog u= .ok (.tuple #[]) w1)/\ChL w w1 p (wS p (mkS p.S ((zah D).take (j+1))))):=kA (λu j z hz k=>by
  obtain⟨w1,r1,m1,g1⟩:=k.1.sts.del (zn1 hD z (mem_of_getElem? hz));refine⟨k.1.cells.2.2.1,k.1.cells.2.2.2.2.2,w1,r1,?_⟩;rw[znZ hz]
  exact k.join (k.1.setS m1 g1))
 have dU:Hid (∀u j z,(zah D)[j]? =some z->ChL w u p (wS p (zcR D.L (zah D) p.S j))->Calls prog 200 #[.pointer (some ⟨p.g,0,none⟩),.int .i64 z] u λe w'=>e= .returned (.int .i64 (zb2 D.L z).2)/\ChL w w' p (wS p (zcR D.L (zah D) p.S (j+1)))):=kA (λu j z hz k=>by
  obtain⟨nd,h1,h2,h3,h4,h5⟩:=hL.reach hD hz;have hc:=zms (p:=wS p (zcR D.L (zah D) p.S j)) k.1 (zn1 hD z (mem_of_getElem? hz)) nd h1 h2 (hL.parMR hD z) (λv hv=>by have:=h3 v hv;exact⟨this.1,om⟩) (D.L.map Nd.id) (zsv hD hL j) (by rw[length_map];omega);refine hc.mono ?_;rintro e w' ⟨rfl,Hi⟩;have eO:zn0 nd ((wS p (zcR D.L (zah D) p.S j)).N (zcg (wS p (zcR D.L (zah D) p.S j)).T z)).isSome ((wS p (zcR D.L (zah D) p.S j)).S (zcg (wS p (zcR D.L (zah D) p.S j)).T z)) z=(stv D.L z,(zb2 D.L z).2):=h4;rw[eO]at Hi ⊢;refine⟨rfl,?_⟩;rw[<-h5]
  exact k.join Hi)
 have dM:Hid (mkS p.S (zah D)=zcR D.L (zah D) p.S 0):=kA (zss _ _ _);have Kl:Hid (∀least e,zdq D.L (zah D) least e->e=zeC D):=kA (λleast e q=>zsu hD q);obtain⟨O,hO⟩:∃O,O=zah D:=⟨_,rfl⟩;rw[<-hO]at Kw Hk hJ dS dU dM Kl ⊢;obtain⟨L,nW⟩:∃L,L=D.L:=⟨_,rfl⟩;rw[<-nW]at dU dM Kl ⊢;obtain⟨g,hge⟩:∃g,g=p.g:=⟨_,rfl⟩;rw[<-hge]at dS dU ⊢;obtain⟨gs,Xw⟩:∃gs,gs=p.gs:=⟨_,rfl⟩;rw[<-Xw]at dS;obtain⟨R,hR⟩:∃R:Nat->Int->Option RD,R=zcR L O p.S:=⟨_,rfl⟩;rw[<-hR]at dU dM ⊢;obtain⟨RE,nY⟩:∃RE,RE=zeC D:=⟨_,rfl⟩;rw[<-nY]at Kl ⊢;clear hD hL h Cb row ha hO nW hge Xw hR nY;go_enter func131,ntmps131;go_wp2
 go_loopw [6,14] (λ_ i wr=>∃j:Nat,j<=n/\i= .int .i64 j/\ChL w wr p (wS p (mkS p.S (O.take j)))) (λ_ i _=>n - (ivl i).toNat)
 case atStart=>exact⟨0,om,rfl,Hk⟩
 case round=>
  clear Hk;obtain⟨j,hj,rfl,Hi⟩:=hrel;have Kf:=hJ.out wr _ Hi;have H9:=kA Hi;clear Hi
  by_cases hlt:j<n
  ·obtain⟨b,off,z,rfl,hz,cz⟩:=zci Kf hlt;have Ho:=World.block_lt_of_cell? _ _ cz;obtain⟨c2,hg,w1,r1,Dw⟩:=dS.out wr j z hz H9;have KT:=kA Dw;have j0:(0:Int)<=(j:Int):=om;have j1:(j:Int)<(n:Int):=om;clear Kf hz Dw H9;go_wp2_with (at_builtin;refine za9 rfl (.tmp 21) (.tmp 22) 198 81 rfl _ _ rfl rfl (r1 _) ?_);go_roundw
   case rel=>exact⟨j+1,om,by go_num,KT⟩
   case measure=>simp[ivl] <;> omega
  ·obtain rfl:j=n:=om;have e0:O.take j=O:=take_of_length_le (by rw[Kw.out];exact Nat.le_refl _);rw[e0,dM.out]at H9;have j1:¬(j:Int)<(j:Int):=om;clear e0 Kf hlt dS;go_wp2
   go_loopw [7,8,10,11,26] (λv7 v8 _ _ i wx=>∃ (k:Nat) (le fi:Int),k<=j/\i= .int .i64 k/\v7= .int .i64 le/\v8= .int .i64 fi/\zdq L (O.take k) le fi/\ChL w wx p (wS p (R k))) (λ_ _ _ _ i _=>j - (ivl i).toNat)
   case atStart=>exact⟨0,0,0,om,rfl,rfl,rfl,.inl ⟨rfl,λx hx=>by simp at hx⟩,H9⟩
   case round=>
    clear H9;obtain⟨k,le,fi,hk,rfl,rfl,rfl,hle,Hi⟩:=hrel;have Kf:=hJ.out wr _ Hi;have DT:=kA hle;have H9:=kA Hi;clear Hi hle
    by_cases hlt:k<j
    ·obtain⟨b,off,z,rfl,hz,cz⟩:=zci Kf hlt;have Ho:=World.block_lt_of_cell? _ _ cz;have HF:=kA (dU wr k z hz H9);have HT:Hid (O.take (k+1)=O.take k++[z]):=kA (by rw[take_add_one,hz];rfl);obtain⟨E,hE⟩:∃E,E=(zb2 L z).2:=⟨_,rfl⟩;rw[<-hE]at HF;have HE:=kA hE.symm;have k0:(0:Int)<=(k:Int):=om;have k1:(k:Int)<(j:Int):=om;clear Kf hz H9 hE;go_wp2_with fail;refine HF.mono ?_;rintro e w2 ⟨rfl,Hi⟩;have KT:=kA Hi;clear Hi HF
     by_cases Dy:E=0
     ·subst Dy;have DW:Hid (zdq L (O.take (k+1)) le fi):=kA (by rw[HT.out];exact zst DT HE);go_wp2;go_roundw
      case rel=>exact⟨k+1,le,fi,om,by go_num,rfl,rfl,DW.out,KT⟩
      case measure=>simp[ivl] <;> omega
     ·by_cases zO:fi=0
      ·subst zO;have DW:Hid (zdq L (O.take (k+1)) z E):=kA (by rw[HT.out];exact zim DT HE Dy (.inl rfl));go_wp2;go_roundw
       case rel=>exact⟨k+1,z,E,om,by go_num,rfl,rfl,DW.out,KT⟩
       case measure=>simp[ivl] <;> omega
      ·have Qd:(fi==0)=false:=by simpa using zO
       have gJ:(E != 0)=true:=by simpa using Dy
       by_cases xM:z<le
       ·have DW:Hid (zdq L (O.take (k+1)) z E):=kA (by rw[HT.out];exact zim DT HE Dy (.inr xM));go_wp2;go_roundw
        case rel=>exact⟨k+1,z,E,om,by go_num,rfl,rfl,DW.out,KT⟩
        case measure=>simp[ivl] <;> omega
       ·have DW:Hid (zdq L (O.take (k+1)) le fi):=kA (by rw[HT.out];exact zpf DT zO xM);have eP:decide (z<le)=false:=decide_eq_false xM;have eQ:le<=z:=om;go_wp2;go_roundw
        case rel=>exact⟨k+1,le,fi,om,by go_num,rfl,rfl,DW.out,KT⟩
        case measure=>simp[ivl] <;> omega
    ·obtain rfl:k=j:=om;have e0:O.take k=O:=take_of_length_le (by rw[Kw.out];exact Nat.le_refl _);rw[e0]at DT;have HEq:=kA (Kl le fi DT);have k1:¬(k:Int)<(k:Int):=om;clear e0 Kf hlt;go_wp2;go_ret;exact⟨by rw[HEq.out] <;> rfl,H9⟩
theorem zmu(h:LW w p)(hW:WF p.T)(hP:∀x y,zak p.T x=some y->Rg y){x:Int}(hx:Rg x):
  Calls prog 214 #[.pointer (some ⟨p.g,0,none⟩),.int .i64 x] w λe w'=>e= .returned (.bool (zil p.T p.M x))/\Bw w w':=by
 have D5:Hid (∀u z,Bw w u->Rg z->(Instr.lookup 199 (.map (some p.gm)) (.int .i64 z) true).run prog u= .ok (.tuple #[.agg #[],.bool (p.M z).isSome]) u/\u.cell? ⟨p.g,3,none⟩=some (.map (some p.gm))/\u.cell? ⟨p.g,0,none⟩=some (.pointer (some ⟨p.gf,0,none⟩))/\p.g<u.heap.size):=kA (λu z q hz=>⟨(h.keep q).mrk.look hz,(h.keep q).cells.2.2.2.1,(h.keep q).cells.1,(h.keep q).cells.2.2.2.2.2⟩)
 have cY:Hid (∀u z,Bw w u->Rg z->u.cell? ⟨p.g,0,none⟩=some (.pointer (some ⟨p.gf,0,none⟩))/\p.g<u.heap.size/\Calls prog 251 #[.pointer (some ⟨p.gf,0,none⟩),.int .i64 z] u λe w'=>e= .returned (.tuple #[.int .i64 (zjy (zak p.T z)),.bool (zak p.T z).isSome])/\u=w'):=kA (λu z q hz=>⟨(h.keep q).cells.1,(h.keep q).cells.2.2.2.2.2,by
  obtain⟨gp,gc,bl,cp,h1,_⟩:=(h.keep q).fo
  exact zes h1 hz⟩)
 have HN:Hid (∀z,zak p.T z=none->zil p.T p.M z=(p.M z).isSome):=kA (λz e=>zuW hW e)
 have HS:Hid (∀z y,zak p.T z=some y->zil p.T p.M z=((p.M z).isSome || zil p.T p.M y)/\Rg y/\abM p.T (.int .i64 y)<abM p.T (.int .i64 z)):=kA (λz y e=>⟨zuX hW e,hP z y e,by
  unfold abM;show (abv p.T y).length+1<(abv p.T z).length+1;rw[za0 hW e,length_cons]
  omega⟩)
 have HI:Hid (∀z,(p.M z).isSome=true->zil p.T p.M z=true):=kA (λz e=>by unfold zil;rw[e];rfl);obtain⟨g,hge⟩:∃g,g=p.g:=⟨_,rfl⟩;obtain⟨gf,cd⟩:∃gf,gf=p.gf:=⟨_,rfl⟩;obtain⟨gm,Xe⟩:∃gm,gm=p.gm:=⟨_,rfl⟩;obtain⟨T,hT⟩:∃T,T=p.T:=⟨_,rfl⟩;obtain⟨M,hM⟩:∃M,M=p.M:=⟨_,rfl⟩;rw[<-hge]at D5 cY ⊢;rw[<-cd]at cY D5;rw[<-Xe]at D5;rw[<-hT]at cY HN HS HI ⊢;rw[<-hM]at D5 HN HS HI ⊢;have HX:=kA hx;clear h hW hP hge cd Xe hT hM hx;go_enter func214,ntmps214;go_wp2
 go_loopw [1,5,6,7] (λv1 v5 _ _ wr=>∃ (z:Int) (b:Bool),v1= .int .i64 z/\v5= .bool b/\(b=true->zil T M x=zil T M z/\Rg z)/\(b=false->zil T M x=false)/\Bw w wr) (λv1 v5 _ _ _=>match v5 with | .bool true=>abM T v1 | _=>0)
 case atStart=>exact⟨x,true,rfl,rfl,λ_=>⟨rfl,HX⟩,λc=>(by cases c),Below.refl _ _⟩
 case round=>
  obtain⟨z,b,rfl,rfl,h1,h2,hb⟩:=hrel;have HB:=kA hb;clear hb
  cases b with
  | false=>
   have HR:=kA (h2 rfl);clear h1 h2;go_wp2;go_ret;exact⟨by rw[HR.out] <;> rfl,HB⟩
  | true=>
   obtain⟨he,KH⟩:=h1 rfl;have HE:=kA he;have HZ:=kA KH;obtain⟨hl,c3,c0,hg⟩:=D5.out _ z HB KH;have Vp:=kA (HI z);obtain⟨m,hm⟩:∃m,m=(M z).isSome:=⟨_,rfl⟩;rw[<-hm]at hl Vp;have HM:=kA hm;clear h1 h2 he KH hm;have Hl:Bw wr (wr.alloc (.cells #[] 220)):=zaa _ _;have Hm:=kA (zad HB Hl);clear Hl;go_upto_region 5 with fail;refine fin (λW=>Bw w W) Hm ?_;rintro W KU;have dT:=kA KU;clear KU hl c3 c0 hg Hm HB
   cases m with
   | true=>
    have HR:=kA (HE.trans (Vp rfl));go_wp2;go_ret;exact⟨by rw[HR.out] <;> rfl,dT⟩
   | false=>
    obtain⟨c0,hg,hp⟩:=cY.out W z dT HZ;have HP:=kA hp;clear hp
    cases Xk:zak T z with
    | none=>
     have HR:=kA (HE.trans ((HN z Xk).trans HM.symm));rw[Xk]at HP;clear Xk;go_wp2_with fail;refine HP.mono ?_;rintro e w1 ⟨rfl,rfl⟩;go_wp2;go_roundw
     case rel=>exact⟨0,false,rfl,rfl,λc=>(by cases c),λ_=>HR.out,dT⟩
     case measure=>exact succ_pos _
    | some y=>
     obtain⟨k1,k2,k3⟩:=HS.out z y Xk;rw[<-HM.out,Bool.false_or]at k1;have HR:=kA (HE.trans k1);have HY:=kA k2;have Y1:=kA k3;rw[Xk]at HP;clear Xk k1 k2 k3;go_wp2_with fail;refine HP.mono ?_;rintro e w1 ⟨rfl,rfl⟩;go_wp2;go_roundw
     case rel=>exact⟨y,true,rfl,rfl,λ_=>⟨HR,HY⟩,λc=>(by cases c),dT⟩
     case measure=>exact Y1
def stL(p:Wp)(x:Int):RD × Bool:=if zil p.T p.M x=true then (zRf,false) else ((p.S x).getD zRf,(p.S x).isSome)
theorem zzr(s:Stt):cFs s=lM s.wo++[.bool s.sh]:=rfl
theorem zxX(s:Stt):∀u∈cFs s,u.oneCell'=true:=λu hu=>by
 rw[zzr]at hu;rcases mem_append.1 hu with h | h
 ·exact zna _ u h
 ·rw[mem_singleton.1 h];rfl
structure FX (X:List Value):Prop where
 len:X.length=13
 size:(prog.info? 228).map (·.size)=some X.length
 sizea:(prog.info? 228).map (·.size)=some X.toArray.size
 onea:X.toArray.all (·.oneCell')=true
theorem zvR(s:Stt):FX (cFs s):=⟨rfl,oM,oM,all_oneCell_toArray (zxX s)⟩
theorem zuY(W:World):(Instr.build 228 #[]).run prog W= .ok (.agg (cFs zSt).toArray) W:=oM
end
section
variable {w:World} {p:Wp}
theorem zmv(h:LW w p)(hW:WF p.T)(hP:∀x y,zak p.T x=some y->Rg y){x:Int}(hx:Rg x):
  Calls prog 137 #[.pointer (some ⟨p.g,0,none⟩),.int .i64 x] w λe w'=>∃Y,e= .returned (.tuple #[.agg (toArray Y),.bool (stL p x).2])/\Y=cFs (stL p x).1.1/\Bw w w':=by
 have V8:Hid (∀u,Bw w u->Calls prog 214 #[.pointer (some ⟨p.g,0,none⟩),.int .i64 x] u λe w'=>e= .returned (.bool (zil p.T p.M x))/\Bw u w'):=kA (λu q=>zmu (h.keep q) hW hP hx);have Cu:Hid (∀u,Bw w u->u.cell? ⟨p.g,2,none⟩=some (.map (some p.gs))/\p.g<u.heap.size/\(Instr.lookup 198 (.map (some p.gs)) (.int .i64 x) true).run prog u= .ok (.tuple #[.agg (cSd ((p.S x).getD zRf)).toArray,.bool (p.S x).isSome]) u):=kA (λu q=>⟨(h.keep q).cells.2.2.1,(h.keep q).cells.2.2.2.2.2,(h.keep q).sts.look hx⟩);have hst:stL p x=if zil p.T p.M x=true then (zRf,false) else ((p.S x).getD zRf,(p.S x).isSome):=rfl
 obtain⟨dt,nZ⟩:∃dt,dt=zil p.T p.M x:=⟨_,rfl⟩;obtain⟨v,hv⟩:∃v,v=(p.S x).getD zRf:=⟨_,rfl⟩;obtain⟨os,Zt⟩:∃os,os=(p.S x).isSome:=⟨_,rfl⟩;obtain⟨g,hge⟩:∃g,g=p.g:=⟨_,rfl⟩;obtain⟨gs,Xw⟩:∃gs,gs=p.gs:=⟨_,rfl⟩;rw[<-nZ]at V8 hst;rw[<-hv]at Cu hst;rw[<-Zt]at Cu hst;rw[<-hge]at V8 Cu ⊢;rw[<-Xw]at Cu;obtain⟨sl,hsl⟩:∃sl,sl=stL p x:=⟨_,rfl⟩;rw[<-hsl]at hst ⊢;have VW:=kA hst;have KZ:=kA (Blk.new w 228 (cFs zSt).toArray);have Hb:Hid (Bw w (w.alloc (.cells (cFs zSt).toArray 228))):=kA (zaa _ _);have HZ:=kA (zvR zSt);have Jm:=kA zuY;have HX:=kA (zvP v);have HF:=kA (zvR v.1);have Xx:Hid (∀W gg,Blk W gg 299 (cSd v).toArray->W.rangeAt gg 0 (cFs v.1)):=kA (λW gg k=>zaH k 0 13);obtain⟨XZ,xL⟩:∃XZ,XZ=cFs zSt:=⟨_,rfl⟩;obtain⟨XR,yQ⟩:∃XR,XR=cSd v:=⟨_,rfl⟩;obtain⟨XF,ZX⟩:∃XF,XF=cFs v.1:=⟨_,rfl⟩;rw[<-yQ]at Cu HX Xx;rw[<-ZX]at HF Xx;have Zh:=kA xL;have VT:=kA ZX;clear h hW hP hx nZ hv Zt hge Xw hsl hst yQ ZX;go_enter func137,ntmps137;go_upto_region 1 with fail;refine fin (λW=>Blk W w.heap.size 228 (cFs zSt).toArray/\Bw w W) ⟨KZ,Hb⟩ ?_;clear KZ Hb;rintro W ⟨kz,hb⟩;rw[<-xL]at kz HZ Jm;have KZ:=kA kz;have HB:=kA hb;clear kz hb xL;go_wp2_with fail;refine (V8 _ HB).mono ?_;rintro e w1 ⟨rfl,b1⟩;replace KZ:=kA (KZ.keep b1);replace HB:=kA (zad HB b1);obtain⟨c2,hg,hl⟩:=Cu.out w1 HB;have Kv:Hid (w1.there w.heap.size 0 XZ.toArray.size):=kA (zae KZ (by rw[size_toArray];omega));have L4:Hid (Blk (w1.setCells w.heap.size 0 XZ) w.heap.size 228 XZ.toArray):=kA (zal KZ rfl);have z4:=KZ.lt;clear b1 V8 Cu
 cases dt with
 | true=>
  have Zs:Hid (sl=(zRf,false)):=kA (by rw[VW.out,if_pos rfl]);go_wp2_with (first | refine zj3 rfl 228 rfl (.agg XZ.toArray) Jm ?_ | refine wpList_store_mid rfl 228 (.tmp 4) (.tmp 15) rfl w.heap.size 0 XZ.toArray rfl rfl Kv HZ.sizea HZ.onea ?_)
  refine fin (λW=>Blk W w.heap.size 228 XZ.toArray/\Bw w W) ⟨L4,zab _ HB (Nat.le_refl _)⟩ ?_;rintro W2 ⟨kr,hb⟩;have hl:=run_loadVar_mid W2 w.heap.size 0 228 XZ _ (zac kr) underlying228 rfl HZ.size
  try simp only[Go.Act.put,setIfInBounds_toArray,set_cons_zero,set_cons_succ]
  exact bodyPost_ret (v:= .tuple #[.agg XZ.toArray,.bool false]) (zam results137 rfl rfl hl) rfl ⟨XZ,by rw[Zs.out],by rw[Zs.out,Zh.out];rfl,hb⟩
 | false=>
  have Zs:Hid (sl=(v,os)):=kA (by rw[VW.out,if_neg (by simp)]);have Hl:Bw w1 (w1.alloc (.cells (cSd zRf).toArray 299)):=zaa _ _;have Jn:Hid ((w1.alloc (.cells (cSd zRf).toArray 299)).there w1.heap.size 0 XR.toArray.size):=kA (zae (Blk.new w1 _ _) (by rw[size_toArray,HX.len];exact Nat.le_refl 14));have kj:Bw w1 ((w1.alloc (.cells (cSd zRf).toArray 299)).setCells w1.heap.size 0 XR):=zab XR Hl (Nat.le_refl _);have Jo:Hid (Blk ((w1.alloc (.cells (cSd zRf).toArray 299)).setCells w1.heap.size 0 XR) w1.heap.size 299 XR.toArray/\Blk ((w1.alloc (.cells (cSd zRf).toArray 299)).setCells w1.heap.size 0 XR) w.heap.size 228 (cFs zSt).toArray/\Bw w ((w1.alloc (.cells (cSd zRf).toArray 299)).setCells w1.heap.size 0 XR)):=kA ⟨zal (Blk.new w1 _ _) (by rw[HX.len];rfl),by have:=KZ.keep kj;rw[Zh.out]at this;exact this,zad HB kj⟩;have Hd:w1.heap.size≠w.heap.size:=om;clear Hl kj;go_upto_region 4 with (refine wpList_store_mid rfl 299 (.tmp 6) (.tmp 23) rfl w1.heap.size 0 XR.toArray rfl rfl Jn HX.sizea HX.onea ?_);refine fin (λW=>Blk W w1.heap.size 299 XR.toArray/\Blk W w.heap.size 228 (cFs zSt).toArray/\Bw w W) Jo ?_;clear Jo Jn Kv L4 hl c2 hg z4;obtain⟨g6,CJ⟩:∃g6,g6=w1.heap.size:=⟨_,rfl⟩;rw[<-CJ]at Hd ⊢;rintro W2 ⟨k6,k4,Kd⟩;have qj:=kA (Xx W2 g6 k6);have Kv:Hid (W2.there w.heap.size 0 XF.toArray.size):=kA (zae k4 (by have:=HF.len;rw[size_toArray,this];exact Nat.le_refl 13));have L4:Hid (Blk (W2.setCells w.heap.size 0 XF) w.heap.size 228 XF.toArray):=kA (zal k4 (by rw[HF.len];rfl));have Hm:=kA Kd;have z6:=k6.lt;have z4:=k4.lt;clear k6 k4 Kd CJ HB KZ;go_wp2_with (first | refine wpList_load_mid rfl 228 (.tmp 25) rfl g6 0 rfl XF _ qj underlying228 rfl HF.size ?_ | refine wpList_store_mid rfl 228 (.tmp 4) (.tmp 26) rfl w.heap.size 0 XF.toArray rfl rfl Kv HF.sizea HF.onea ?_)
  refine fin (λW=>Blk W w.heap.size 228 XF.toArray/\Bw w W) ⟨L4,zab _ Hm (Nat.le_refl _)⟩ ?_;rintro W3 ⟨kr,hb⟩;have hl:=run_loadVar_mid W3 w.heap.size 0 228 XF _ (zac kr) underlying228 rfl HF.size
  try simp only[Go.Act.put,setIfInBounds_toArray,set_cons_zero,set_cons_succ]
  exact bodyPost_ret (v:= .tuple #[.agg XF.toArray,.bool os]) (zam results137 rfl rfl hl) rfl ⟨XF,by rw[Zs.out],by rw[Zs.out,VT.out],hb⟩
end
theorem zmw{rest:List Oper}{a:Go.Act}{Q:Exit->Go.Act->World->Prop}(hw:Region.wanted op (yielded ops a.tmps)=true)(t e:TypeId)(x:Operand)(ho:op.op= .buildSlice t 1 #[(0,x)])(X:List Value)(hx:a.eval x= .agg X.toArray)
  (Hf:∀W,(Instr.buildSlice t 1 #[(0,.agg X.toArray)]).run prog W= .ok (.slice (some ⟨W.heap.size,0,none⟩) 1 1) (W.alloc (.cells X.toArray e)))
  (h:wpList prog ops Q rest (a.put op.dst (.slice (some ⟨w.heap.size,0,none⟩) 1 1)) (w.alloc (.cells X.toArray e))):wpList prog ops Q (op::rest) a w:=by
 rw[wpList,if_pos hw];refine .inl ?_;unfold Oper.wp execOp;simp only[ho];simp[hx,Hf];exact h
theorem zxY(A:Nat->Int)(W:World):(Instr.buildSlice 326 1 #[(0,.agg (lM A).toArray)]).run prog W= .ok (.slice (some ⟨W.heap.size,0,none⟩) 1 1) (W.alloc (.cells (lM A).toArray 46)):=oM
theorem zzs{g:Nat}{A:Nat->Int}(h:Blk w g 46 (lM A).toArray):MRow w (some ⟨g,0,none⟩) 1 [A]:=by
 have h2:Blk w g 46 #[.int .i64 (A 0),.int .i64 (A 1),.int .i64 (A 2),.int .i64 (A 3),.int .i64 (A 4),.int .i64 (A 5),.int .i64 (A 6),.int .i64 (A 7),.int .i64 (A 8),.int .i64 (A 9),.int .i64 (A 10),.int .i64 (A 11)]:=h;refine⟨rfl,om,.inr ⟨_,_,rfl,λi hi j hj=> ?_⟩⟩;obtain rfl:i=0:=om;have:=h2.at12 hj;rw[Nat.zero_mul,Nat.add_zero,Nat.zero_add];exact this
theorem zpg(A:Nat->Int)(w:World)(g:Nat)(k:Blk w g 46 (lM A).toArray):Calls prog 188 #[.slice (some ⟨g,0,none⟩) 1 1] w λe w'=>e= .returned (.bool (okM A))/\Bw w w':=
 zf6 (Ms:=[A]) (by unfold zbG;simp) (zzs k)
structure NF (X:List Value):Prop where
 len:X.length=15
 size:(prog.info? 205).map (·.size)=some X.length
 sizea:(prog.info? 205).map (·.size)=some X.toArray.size
 onea:X.toArray.all (·.oneCell')=true
theorem zvS(n:Nd):NF (cNd n):=⟨rfl,oM,oM,all_oneCell_toArray (zlL n)⟩
theorem zmx(a:Option Addr)(n cap:Nat)(l:List Nd)(w:World)(row:zyI w a n l):
  Calls prog 122 #[.slice a n cap] w λe w'=>e= .returned (.bool (!l.any zhF))/\Bw w w':=by
 have Hy:=row.2.1;have HL:=kA row.1;have hJ:Hid (∀u,Bw w u->zyI u a n l):=kA (λu q=>row.keep q);clear row;go_enter func122,ntmps122;go_wp2
 go_loopw [4,7] (λ_ i wr=>∃j:Nat,j<=n/\i= .int .i64 j/\(l.take j).any zhF=false/\Bw w wr) (λ_ i _=>n - (ivl i).toNat)
 case atStart=>exact⟨0,om,rfl,by simp,Below.refl _ _⟩
 case round=>
  obtain⟨j,hj,rfl,yB,hb⟩:=hrel;have qN:=kA yB;have HB:=kA hb;have Kf:=hJ.out wr hb;clear yB hb
  by_cases hlt:j<n
  ·obtain⟨b,off,md,rfl,Ho,hm,hr⟩:=Kf.at_ hlt;have cC:=kA hr;have eR:=kA (ztx (p:=zhF) hm);have yk:Hid (zhF md=true->l.any zhF=true):=kA (λhp=>zqW hm hp);have KJ:zhF md=(!okM md.pl || decide (md.id<0)):=rfl;have Yf:=kA (zvS md);have Da:=kA (zj4 md.pl);have DD:Hid (∀W gg,Blk W gg 46 (lM md.pl).toArray->Calls prog 188 #[.slice (some ⟨gg,0,none⟩) 1 1] W λe w'=>e= .returned (.bool (okM md.pl))/\Bw W w'):=kA (λW gg k=>zpg md.pl W gg k);have Dk:Hid (∀W,(Instr.buildSlice 326 1 #[(0,.agg (lM md.pl).toArray)]).run prog W= .ok (.slice (some ⟨W.heap.size,0,none⟩) 1 1) (W.alloc (.cells (lM md.pl).toArray 46))):=kA (zxY md.pl);have Qh:Hid (∀W gg,Blk W gg 205 (cNd md).toArray->W.rangeAt gg 2 (lM md.pl)/\W.cell? ⟨gg,0,none⟩=some (.int .i64 md.id)):=kA (λW gg k=>⟨zaH k 2 12,k.cell 0⟩);have Hl:Bw wr (wr.alloc (.cells (cNd zNd).toArray 205)):=zaa _ _;have kj:Bw wr ((wr.alloc (.cells (cNd zNd).toArray 205)).setCells wr.heap.size 0 (cNd md)):=zab (cNd md) Hl (Nat.le_refl _);have kt:Hid ((wr.alloc (.cells (cNd zNd).toArray 205)).there wr.heap.size 0 (cNd md).toArray.size):=kA (zae (Blk.new wr _ _) (by rw[size_toArray];exact Nat.le_refl 15));have HK:Hid (Blk ((wr.alloc (.cells (cNd zNd).toArray 205)).setCells wr.heap.size 0 (cNd md)) wr.heap.size 205 (cNd md).toArray/\Bw w ((wr.alloc (.cells (cNd zNd).toArray 205)).setCells wr.heap.size 0 (cNd md))):=kA ⟨zal (Blk.new wr _ _) rfl,zad HB kj⟩;clear Hl kj;obtain⟨XM,zX⟩:∃XM,XM=cNd md:=⟨_,rfl⟩;obtain⟨MM,Na⟩:∃MM,MM=lM md.pl:=⟨_,rfl⟩;obtain⟨ok,Hp⟩:∃ok,ok=okM md.pl:=⟨_,rfl⟩;obtain⟨y,hy⟩:∃y,y=md.id:=⟨_,rfl⟩;rw[<-zX]at cC Yf Qh HK kt;rw[<-Na]at Da DD Dk Qh;rw[<-Hp]at DD KJ;rw[<-hy]at Qh KJ;have KS:=kA KJ;have j0:(0:Int)<=(j:Int):=om;have j1:(j:Int)<(n:Int):=om;clear Kf hm hr KJ zX Na Hp hy;go_upto_region 4 with (first | refine wpList_load_mid rfl 205 (.tmp 9) rfl b (off+j*15) rfl XM _ cC underlying205 rfl Yf.size ?_ | refine wpList_store_mid rfl 205 (.tmp 4) (.tmp 10) rfl wr.heap.size 0 XM.toArray rfl rfl kt Yf.sizea Yf.onea ?_)
   refine fin (λW=>Blk W wr.heap.size 205 XM.toArray/\Bw w W) HK ?_;clear HK kt cC HB;obtain⟨g4,cH⟩:∃g4,g4=wr.heap.size:=⟨_,rfl⟩;rw[<-cH];rintro W ⟨k4,hb⟩;obtain⟨jm,c4⟩:=Qh.out W g4 k4;have Nb:=kA jm;have HB:=kA hb;have z4:=k4.lt;clear k4 hb jm cH
   by_cases jl:y<0
   ·have HE:Hid (l.any zhF=true):=kA (yk (by rw[KS.out,decide_eq_true jl];simp));go_wp2;go_ret;exact⟨by rw[HE.out] <;> rfl,HB⟩
   ·have dO:0<=y:=om;go_wp2_with (first | refine za6 (by rfl) 46 (.tmp 15) rfl g4 2 rfl MM _ Nb underlying46 rfl Da.size ?_ | refine zmw (by rfl) 326 46 (.tmp 16) rfl MM rfl Dk ?_)
    refine (DD _ _ (Blk.new W _ _)).mono ?_;rintro e w2 ⟨rfl,b2⟩;have Hm:=kA (zad HB (zad (zaa _ _) b2));clear b2 DD Dk Nb
    cases ok with
    | false=>
     have HE:Hid (l.any zhF=true):=kA (yk (by rw[KS.out];rfl));go_wp2;go_ret;exact⟨by rw[HE.out] <;> rfl,Hm⟩
    | true=>
     have eU:Hid ((l.take (j+1)).any zhF=false):=kA (by rw[eR.out,qN.out,KS.out,decide_eq_false (show ¬y<0 by omega)];rfl);go_wp2;go_roundw
     case rel=>exact⟨j+1,om,by go_num,eU.out,Hm⟩
     case measure=>simp[ivl] <;> omega
  ·obtain rfl:j=n:=om;have e0:l.take j=l:=take_of_length_le (by rw[HL.out];exact Nat.le_refl _);rw[e0]at qN;have j1:¬(j:Int)<(j:Int):=om;clear e0 Kf;go_wp2;go_ret;exact⟨by rw[qN.out] <;> rfl,HB⟩
abbrev LK:=Int × Int
def cLk(x:LK):List Value:=[.int .i64 x.1,.int .i64 x.2]
def wT(p:Wp)(T:FT)(Ff:Nat->Prop):Wp:={ p with T:=T,Ff:=Ff }
def zch:FT->List LK->FT × Int
 | T,[]=>(T,0)
 | T,lk::r=>if lk.2<0 then zch T r else if zbr T lk.1 lk.2=0 then zch (setF T lk.1 lk.2) r else (T,zbr T lk.1 lk.2)
section
variable {w u:World} {p q:Wp}
theorem LW.free1(k:LW u q)(hW:WF q.T)(hL:q.T.length<=1000){c:Int}(hc:Rg c):Calls prog 95 #[.pointer (some ⟨q.gf,0,none⟩),.slice (some ⟨u.heap.size,0,none⟩) 1 1] (u.alloc (.cells #[.int .i64 c] 81)) λe w'=>∃z,e= .returned (.int .i64 z)/\∃Kn,ChL u w' q (wT q (zaI q.T c) Kn):=by
 have Hl:Bw u (u.alloc (.cells #[.int .i64 c] 81)):=zaa _ _
 have hr:Row (u.alloc (.cells #[.int .i64 c] 81)) (some ⟨u.heap.size,0,none⟩) 1 [c]:=⟨rfl,om,.inr ⟨_,_,rfl,λj hj=>by
  obtain rfl:j=0:=om
  exact (Blk.new u 81 #[.int .i64 c]).cell 0⟩⟩
 have k2:=k.keep Hl;refine (zkg k2.fo hW hL (show 1<=1000 by omega) hr (.inr (λad e hf=> ?_)) (λz hz=>by rw[mem_singleton.1 hz];exact hc)).mono ?_
 ·have:=k.fo.inb ad.block hf;injection e with e;rw[<-e]at this;exact absurd this (Nat.lt_irrefl _)
 ·rintro e w' ⟨rfl,Hi⟩;refine⟨_,rfl,?_⟩;obtain⟨Kn,dx⟩:=k2.setF Hi;exact⟨Kn,(ChL.still k Hl).join dx⟩
theorem LW.set1(k:LW u q)(hW:WF q.T)(hL:q.T.length<=1000){c d:Int}(hc:Rg c)(hd:Rg d):Calls prog 63 #[.pointer (some ⟨q.gf,0,none⟩),.int .i64 c,.int .i64 d] u λe w'=>e= .returned (.int .i64 (zbr q.T c d))/\∃Kn,ChL u w' q (wT q (zbD q.T c d) Kn):=by
 refine (znj k.fo hW hL hc hd).mono ?_;rintro e w' ⟨rfl,Hi⟩;exact⟨rfl,k.setF Hi⟩
theorem zuZ{X:List LK}{lk:LK}(h:X[j]? =some lk)(T:FT):zch T (X.drop j)=if lk.2<0 then zch T (X.drop (j+1)) else if zbr T lk.1 lk.2=0 then zch (setF T lk.1 lk.2) (X.drop (j+1)) else (T,zbr T lk.1 lk.2):=by
 obtain⟨hk,e⟩:=List.getElem?_eq_some_iff.1 h;rw[drop_eq_getElem_cons hk,e];rfl
theorem zu0{X:List LK}(h:X.length<=j)(T:FT):zch T (X.drop j)=(T,0):=by
 rw[drop_eq_nil_of_le h];rfl
theorem zn2(T:FT)(c d:Int):(setF T c d).length<=T.length+1:=by
 unfold setF;have:=zeS T c;rw[length_append,length_singleton];omega
theorem zph{X:List LK}{lk:LK}(h:X[j]? =some lk)(T:FT):zax T ((X.take (j+1)).map Prod.fst)=zaI (zax T ((X.take j).map Prod.fst)) lk.1:=by
 unfold zax;rw[take_add_one,h,map_append,foldl_append];rfl
theorem zkY(h:LW w p)(hW:WF p.T){a:Option Addr}{n cap:Nat}{X:List LK}(row:RowX 2 cLk w a n X)(ha:AwX (zba p) a n)(hX:∀k∈X,Rg k.1/\Rg k.2)(kh:p.T.length+n<=1000):
  Calls prog 192 #[.pointer (some ⟨p.g,0,none⟩),.slice a n cap] w λe w'=>e= .returned (.int .i64 (zch (zax p.T (X.map Prod.fst)) X).2)/\∃Ff,ChL w w' p (wT p (zch (zax p.T (X.map Prod.fst)) X).1 Ff):=by
 have Hy:=row.2.1;have Kw:=kA row.1;have hJ:Hid (∀u q,ChL w u p q->RowX 2 cLk u a n X):=kA (λu q k=>zh0 row ha k.2.1);have Hk:Hid (ChL w w p (wT p (zax p.T ((X.take 0).map Prod.fst)) p.Ff)):=kA (ChL.still h (Below.refl _ _))
 have HF:Hid (∀u W g6 j lk Ff c d,X[j]? =some lk->lk=(c,d)->ChL w u p (wT p (zax p.T ((X.take j).map Prod.fst)) Ff)->Bw u W->Blk W g6 283 #[.int .i64 c,.int .i64 d]->u.heap.size<=g6->W.cell? ⟨p.g,0,none⟩=some (.pointer (some ⟨p.gf,0,none⟩))/\p.g<W.heap.size/\∀V,Bw W V->Calls prog 95 #[.pointer (some ⟨p.gf,0,none⟩),.slice (some ⟨V.heap.size,0,none⟩) 1 1] (V.alloc (.cells #[.int .i64 c] 81)) λe w2=>∃z,e= .returned (.int .i64 z)/\(∃Kn,ChL w w2 p (wT p (zax p.T ((X.take (j+1)).map Prod.fst)) Kn))/\w2.cell? ⟨p.g,0,none⟩=some (.pointer (some ⟨p.gf,0,none⟩))/\w2.cell? ⟨g6,0,none⟩=some (.int .i64 c)):=kA (λu W g6 j lk Ff c d hj e k hb kM hg=>by
  subst e;have k1:=k.1.keep hb;refine⟨k1.cells.1,k1.cells.2.2.2.2.2,λV hV=> ?_⟩;have k2:=k1.keep hV;refine (k2.free1 (WF.frees _ hW) (by show (zax p.T _).length<=1000;have:=zdQ ((X.take j).map Prod.fst) p.T;omega) (hX _ (mem_of_getElem? hj)).1).mono ?_;rintro e w2 ⟨z,rfl,Kn,dx⟩;have xC:ChL w w2 p (wT (wT p (zax p.T ((X.take j).map Prod.fst)) Ff) (zaI (zax p.T ((X.take j).map Prod.fst)) c) Kn):=(k.join (ChL.still k.1 (zad hb hV))).join dx;refine⟨z,rfl,⟨Kn,by rw[zph hj];exact xC⟩,xC.1.cells.1,?_⟩;have vE:=kM.keep hV;have hbf:=vE.same (w':=w2) (dx.2.1.2.2.2.2 g6 vE.lt (λc=>by have:=k.1.inb g6 c;omega))
  exact hbf.cell 0)
 have HS:Hid (∀u W g8 j lk T Ff c d,X[j]? =some lk->lk=(c,d)->WF T->T.length+(n - j)<=1000->ChL w u p (wT p T Ff)->Bw u W->Blk W g8 283 #[.int .i64 c,.int .i64 d]->u.heap.size<=g8->W.cell? ⟨p.g,0,none⟩=some (.pointer (some ⟨p.gf,0,none⟩))/\p.g<W.heap.size/\ChL w W p (wT p T Ff)/\∀V,Bw W V->Calls prog 63 #[.pointer (some ⟨p.gf,0,none⟩),.int .i64 c,.int .i64 d] V λe w2=>e= .returned (.int .i64 (zbr T c d))/\(∃Kn,ChL w w2 p (wT p (zbD T c d) Kn))/\w2.cell? ⟨p.g,0,none⟩=some (.pointer (some ⟨p.gf,0,none⟩))/\w2.cell? ⟨g8,0,none⟩=some (.int .i64 c)/\w2.cell? ⟨g8,1,none⟩=some (.int .i64 d)):=kA (λu W g6 j lk T Ff c d hj e V9 qO k hb kM hg=>by
  subst e;have k1:=k.1.keep hb;refine⟨k1.cells.1,k1.cells.2.2.2.2.2,k.join (ChL.still k.1 hb),λV hV=> ?_⟩;have k2:=k1.keep hV;have hr:=hX _ (mem_of_getElem? hj);refine (k2.set1 V9 (by show T.length<=1000;omega) hr.1 hr.2).mono ?_;rintro e w2 ⟨rfl,Kn,dx⟩;have xC:ChL w w2 p (wT (wT p T Ff) (zbD T c d) Kn):=(k.join (ChL.still k.1 (zad hb hV))).join dx;have vE:=kM.keep hV;have hbf:=vE.same (w':=w2) (dx.2.1.2.2.2.2 g6 vE.lt (λc=>by have:=k.1.inb g6 c;omega))
  exact⟨rfl,⟨Kn,xC⟩,xC.1.cells.1,hbf.cell 0,hbf.cell 1⟩)
 have Z1:Hid (WF (zax p.T (X.map Prod.fst))/\(zax p.T (X.map Prod.fst)).length+n<=1000):=kA ⟨WF.frees _ hW,by have:=zdQ (X.map Prod.fst) p.T;omega⟩;obtain⟨g,hge⟩:∃g,g=p.g:=⟨_,rfl⟩;obtain⟨gf,cd⟩:∃gf,gf=p.gf:=⟨_,rfl⟩;rw[<-hge]at HF HS ⊢;rw[<-cd]at HF HS;obtain⟨R,hR⟩:∃R,R=zch (zax p.T (X.map Prod.fst)) X:=⟨_,rfl⟩;have HR:=kA hR;rw[<-hR];clear h hW row ha hX kh hge cd hR;go_enter func192,ntmps192;go_wp2
 go_loopw [6,12] (λ_ i wr=>∃ (j:Nat) (Ff:Nat->Prop),j<=n/\i= .int .i64 j/\ChL w wr p (wT p (zax p.T ((X.take j).map Prod.fst)) Ff)) (λ_ i _=>n - (ivl i).toNat)
 case atStart=>exact⟨0,p.Ff,om,rfl,Hk⟩
 case round=>
  clear Hk;obtain⟨j,Ff,hj,rfl,Hi⟩:=hrel;have Kf:=hJ.out wr _ Hi;have H9:=kA Hi;clear Hi
  by_cases hlt:j<n
  ·obtain⟨b,off,lk,rfl,Ho,hx,hr⟩:=Kf.at_ hlt;obtain⟨c,hc⟩:∃c,c=lk.1:=⟨_,rfl⟩;obtain⟨d,hd⟩:∃d,d=lk.2:=⟨_,rfl⟩;have cx:wr.cell? ⟨b,off+j*2,none⟩=some (.int .i64 c):=by rw[hc];exact hr 0 _ rfl
   have cy:wr.cell? ⟨b,off+j*2+1,none⟩=some (.int .i64 d):=by rw[hd];exact hr 1 _ rfl
   have hK:=Blk.new wr 283 #[.int .i64 c,.int .i64 d];have HK:Hid (Blk (wr.alloc (.cells #[.int .i64 c,.int .i64 d] 283)) wr.heap.size 283 #[.int .i64 c,.int .i64 d]/\Bw wr (wr.alloc (.cells #[.int .i64 c,.int .i64 d] 283))):=kA ⟨hK,zaa _ _⟩;have cW:=kA (λW g6=>HF.out wr W g6 j lk Ff c d hx (by rw[hc,hd]) H9);have j0:(0:Int)<=(j:Int):=om;have j1:(j:Int)<(n:Int):=om;clear Kf hx hr hc hd hK;go_upto_region 4 with fail;refine fin (λW=>Blk W wr.heap.size 283 #[.int .i64 c,.int .i64 d]/\Bw wr W) HK ?_;clear HK cx cy;obtain⟨g6,CJ⟩:∃g6,g6=wr.heap.size:=⟨_,rfl⟩;rw[<-CJ];rintro W ⟨k6,hb⟩;obtain⟨c0,hg,kw⟩:=cW.out W g6 (by first | exact hb | (rw[CJ]at hb;exact hb)) k6 om
   have tz:=kA kw;have c6:W.cell? ⟨g6,0,none⟩=some (.int .i64 c):=k6.cell 0;have z6:=k6.lt;clear kw cW k6 hb CJ H9
   go_region_held3 (λw'=>w'.cell? ⟨g,0,none⟩=some (.pointer (some ⟨gf,0,none⟩))/\w'.cell? ⟨g6,0,none⟩=some (.int .i64 c)) (first | exact⟨c0,c6⟩ | exact⟨QU,Tk⟩ | exact⟨zao c0 (zad (zav W) (zaa _ _)),zao c6 (zad (zav W) (zaa _ _))⟩)
    (first | (go_at_call 95;refine (tz _ (za5 (Below.refl _ _))).mono ?_;rintro e w2 ⟨z,rfl,Hi,QU,Tk⟩;have KT:=kA Hi;clear Hi))
   obtain⟨Kn,Dw⟩:=KT.out;have sa:=kA Dw;clear Dw KT;go_wp2;go_roundw
   case rel=>exact⟨j+1,Kn,om,by go_num,sa⟩
   case measure=>simp[ivl] <;> omega
  ·obtain rfl:j=n:=om;have e0:X.take j=X:=take_of_length_le (by rw[Kw.out];exact Nat.le_refl _);rw[e0]at H9;have j1:¬(j:Int)<(j:Int):=om;clear e0 Kf hlt HF;go_wp2
   go_loopw [8,9,27] (λ_ _ i wx=>∃ (k:Nat) (T:FT) (F2:Nat->Prop),k<=j/\i= .int .i64 k/\WF T/\T.length+(j - k)<=1000/\R=zch T (X.drop k)/\ChL w wx p (wT p T F2)) (λ_ _ i _=>j - (ivl i).toNat)
   case atStart=>exact⟨0,_,Ff,om,rfl,Z1.1,by have:=Z1.2;omega,HR.out,H9⟩
   case round=>
    clear H9;obtain⟨k,T,F2,hk,rfl,V9,qO,Nc,Hi⟩:=hrel;have Kf:=hJ.out wr _ Hi;have H9:=kA Hi;have tA:=kA V9;have tB:=kA qO;have dU:=kA Nc;clear Hi V9 qO Nc
    by_cases hlt:k<j
    ·obtain⟨b,off,lk,rfl,Ho,hx,hr⟩:=Kf.at_ hlt;have Kb:=kA (zuZ hx T);obtain⟨c,hc⟩:∃c,c=lk.1:=⟨_,rfl⟩;obtain⟨d,hd⟩:∃d,d=lk.2:=⟨_,rfl⟩;have cx:wr.cell? ⟨b,off+k*2,none⟩=some (.int .i64 c):=by rw[hc];exact hr 0 _ rfl
     have cy:wr.cell? ⟨b,off+k*2+1,none⟩=some (.int .i64 d):=by rw[hd];exact hr 1 _ rfl
     rw[<-hc,<-hd]at Kb;have hK:=Blk.new wr 283 #[.int .i64 c,.int .i64 d];have HK:Hid (Blk (wr.alloc (.cells #[.int .i64 c,.int .i64 d] 283)) wr.heap.size 283 #[.int .i64 c,.int .i64 d]/\Bw wr (wr.alloc (.cells #[.int .i64 c,.int .i64 d] 283))):=kA ⟨hK,zaa _ _⟩;have Hk:=kA (λW g6=>HS.out wr W g6 k lk T F2 c d hx (by rw[hc,hd]) tA tB H9);have k0:(0:Int)<=(k:Int):=om;have k1:(k:Int)<(j:Int):=om;clear Kf hx hr hc hd hK;go_upto_region 9 with fail;refine fin (λW=>Blk W wr.heap.size 283 #[.int .i64 c,.int .i64 d]/\Bw wr W) HK ?_;clear HK cx cy;obtain⟨g6,CJ⟩:∃g6,g6=wr.heap.size:=⟨_,rfl⟩;rw[<-CJ];rintro W ⟨k6,hb⟩;obtain⟨c0,hg,vF,vG⟩:=Hk.out W g6 (by first | exact hb | (rw[CJ]at hb;exact hb)) k6 om
     have Ky:=kA vG;have tC:=kA vF;have c6:W.cell? ⟨g6,0,none⟩=some (.int .i64 c):=k6.cell 0;have c7:W.cell? ⟨g6,1,none⟩=some (.int .i64 d):=k6.cell 1;have z6:=k6.lt;clear vG vF Hk k6 hb CJ H9
     by_cases Nf:d<0
     ·have HN:Hid (R=zch T (X.drop (k+1))):=kA (by rw[dU.out,Kb.out,if_pos Nf]);clear Ky;go_wp2;go_roundw
      case rel=>exact⟨k+1,T,F2,om,by go_num,tA.out,by have:=tB.out;omega,HN.out,tC⟩
      case measure=>simp[ivl] <;> omega
     ·have zt:0<=d:=om;have se:Hid (zbD T c d=if zbr T c d=0 then setF T c d else T):=kA rfl
      have Ng:Hid (WF (zbD T c d)):=kA (tA.set9 c d);obtain⟨E,hE⟩:∃E,E=zbr T c d:=⟨_,rfl⟩;obtain⟨T2,Xo⟩:∃T2,T2=zbD T c d:=⟨_,rfl⟩;rw[<-hE]at Ky Kb se;rw[<-Xo]at Ky se Ng;have vH:Hid (R=if E=0 then zch (setF T c d) (X.drop (k+1)) else (T,E)):=kA (by rw[dU.out,Kb.out,if_neg Nf])
      clear hE Xo Kb;go_upto_region 10 with fail
      go_region_held3 (λw'=>w'.cell? ⟨g,0,none⟩=some (.pointer (some ⟨gf,0,none⟩))/\w'.cell? ⟨g6,0,none⟩=some (.int .i64 c)/\w'.cell? ⟨g6,1,none⟩=some (.int .i64 d)) (first | exact⟨c0,c6,c7⟩ | exact⟨QU,Tk,c72⟩)
       (first | (go_at_call 63;refine (Ky _ (za5 (Below.refl _ _))).mono ?_;rintro e w2 ⟨rfl,Hi,QU,Tk,c72⟩;have KT:=kA Hi;clear Hi))
      obtain⟨Kn,Dw⟩:=KT.out;have sa:=kA Dw;clear Dw KT
      by_cases Dy:E=0
      ·subst Dy;have Y9:Hid (T2=setF T c d):=kA (by rw[se.out,if_pos rfl]);have HN:Hid (R=zch T2 (X.drop (k+1))):=kA (by rw[vH.out,if_pos rfl,Y9.out]);have tE:Hid (T2.length+(j - (k+1))<=1000):=kA (by rw[Y9.out];have:=tB.out;have:=zn2 T c d;omega);go_wp2;go_roundw
       case rel=>exact⟨k+1,T2,Kn,om,by go_num,Ng.out,tE.out,HN.out,sa⟩
       case measure=>simp[ivl] <;> omega
      ·have HN:Hid (R=(T,E)):=kA (by rw[vH.out,if_neg Dy]);have Y9:Hid (T2=T):=kA (by rw[se.out,if_neg Dy]);go_wp2;go_ret;exact⟨by rw[HN.out] <;> rfl,Kn,by have:=sa.out;rw[Y9.out]at this;rw[HN.out];exact this⟩
    ·obtain rfl:k=j:=om;have HN:Hid (R=(T,0)):=kA (by rw[dU.out,zu0 (by rw[Kw.out];exact Nat.le_refl _)]);have k1:¬(k:Int)<(k:Int):=om;clear Kf hlt;go_wp2;go_ret;exact⟨by rw[HN.out] <;> rfl,F2,by rw[HN.out];exact H9.out⟩
end
theorem zkZ:∀ (X:List LK) {T:FT},WF T->WF (zch T X).1
 | [],_,h=>h
 | lk::r,T,h=>by
  unfold zch
  by_cases c:lk.2<0
  ·rw[if_pos c];exact zkZ r h
  ·rw[if_neg c]
   by_cases d:zbr T lk.1 lk.2=0
   ·rw[if_pos d];have:=h.set9 lk.1 lk.2;unfold zbD at this;rw[if_pos d]at this;exact zkZ r this
   ·rw[if_neg d];exact h
theorem zmy:∀ (X:List LK) (T:FT),(zch T X).1.length<=T.length+X.length
 | [],T=>Nat.le_refl _
 | lk::r,T=>by
  unfold zch
  by_cases c:lk.2<0
  ·rw[if_pos c];have:=zmy r T;rw[length_cons];omega
  ·rw[if_neg c]
   by_cases d:zbr T lk.1 lk.2=0
   ·rw[if_pos d];have:=zmy r (setF T lk.1 lk.2);have:=zn2 T lk.1 lk.2;rw[length_cons];omega
   ·rw[if_neg d];show T.length<=_;omega
def zk3(T:FT)(X Y:List LK):FT:=if (zch (zax T (X.map Prod.fst)) X).2=0 then (zch (zax T (X.map Prod.fst)) X).1 else (zch (zax (zch (zax T (X.map Prod.fst)) X).1 (Y.map Prod.fst)) Y).1
section
variable {w:World} {p:Wp}
theorem zpi(h:LW w p)(hW:WF p.T){a b:Option Addr}{n m cap cap':Nat}{X Y:List LK}(row:RowX 2 cLk w a n X)(ha:AwX (zba p) a n)(hX:∀k∈X,Rg k.1/\Rg k.2)(zyc:RowX 2 cLk w b m Y)(tF:AwX (zba p) b m)(hY:∀k∈Y,Rg k.1/\Rg k.2)(hin:∀ad,b=some ad->m=0∨ad.block<w.heap.size)(kh:p.T.length+n+m<=1000):
  Calls prog 126 #[.pointer (some ⟨p.g,0,none⟩),.slice a n cap,.slice b m cap'] w λe w'=>e= .returned (.int .i64 (zch (zax p.T (X.map Prod.fst)) X).2)/\∃Ff,ChL w w' p (wT p (zk3 p.T X Y) Ff):=by
 have CO:=row.1;have H1:=kA (zkY (cap:=cap) h hW row ha hX om)
 have H2:Hid (∀u Ff,ChL w u p (wT p (zch (zax p.T (X.map Prod.fst)) X).1 Ff)->Calls prog 192 #[.pointer (some ⟨p.g,0,none⟩),.slice b m cap'] u λe w'=>∃z,e= .returned (.int .i64 z)/\∃Ff,ChL w w' p (wT p (zch (zax (zch (zax p.T (X.map Prod.fst)) X).1 (Y.map Prod.fst)) Y).1 Ff)):=kA (λu Ff k=>by
  refine (zkY (cap:=cap') k.1 (zkZ X (WF.frees _ hW)) (zh0 zyc tF k.2.1) ?_ hY ?_).mono ?_
  ·rcases tF with c | c
   ·exact .inl c
   ·by_cases hm:m=0
    ·exact .inl hm
    ·refine .inr (λad e hf=> ?_);rcases k.2.2 ad.block hf with d | d
     ·exact c ad e d
     ·rcases hin ad e with q | q
      ·exact hm q
      ·omega
  ·show (zch (zax p.T (X.map Prod.fst)) X).1.length+m<=1000;have:=zmy X (zax p.T (X.map Prod.fst));have:=zdQ (X.map Prod.fst) p.T;omega
  ·rintro e w' ⟨rfl,Kn,hc⟩
   exact⟨_,rfl,Kn,k.join hc⟩)
 have Xy:zk3 p.T X Y=if (zch (zax p.T (X.map Prod.fst)) X).2=0 then (zch (zax p.T (X.map Prod.fst)) X).1 else (zch (zax (zch (zax p.T (X.map Prod.fst)) X).1 (Y.map Prod.fst)) Y).1:=rfl
 obtain⟨R,hR⟩:∃R,R=zch (zax p.T (X.map Prod.fst)) X:=⟨_,rfl⟩;obtain⟨R2,Nh⟩:∃R2,R2=(zch (zax R.1 (Y.map Prod.fst)) Y).1:=⟨_,rfl⟩;rw[<-hR]at H1 H2 Xy ⊢;rw[<-Nh]at H2 Xy;have CK:=kA Xy;obtain⟨E,hE⟩:∃E,E=R.2:=⟨_,rfl⟩;rw[<-hE]at H1 CK ⊢;clear h hW row ha hX zyc tF hY hin hR Nh hE Xy;go_enter func126,ntmps126;go_wp2_with fail;refine H1.mono ?_;rintro e w1 ⟨rfl,Ff,hc⟩;have HC:=kA hc;have H3:=kA (H2 w1 Ff hc);clear hc H1 H2
 by_cases Dy:E=0
 ·have Cn:Hid (zk3 p.T X Y=R.1):=kA (by rw[CK.out,if_pos Dy]);clear H3 CK;subst Dy;go_wp2;go_ret;exact⟨rfl,Ff,by rw[Cn.out];exact HC.out⟩
 ·go_wp2_with fail;refine H3.mono ?_;rintro e w2 ⟨z,rfl,Kn,hc⟩;have KT:=kA hc;clear hc H3;go_wp2;go_ret;exact⟨rfl,Kn,by rw[CK.out,if_neg Dy];exact KT.out⟩
end
def wnt(m:Int->Option Nd)(x:Int):Int:=if ((m x).getD zNd).par< -1 then -1 else ((m x).getD zNd).par
def toL(T:FT)(m:Int->Option Nd)(K:List Int):List LK:=K.filterMap (λx=>if zcg T x=wnt m x then none else some (x,wnt m x))
def zbA(T:FT)(m:Int->Option Nd)(K:List Int):List LK:=K.filterMap (λx=>if zcg T x=wnt m x then none else some (x,zcg T x))
theorem zsw{f:Int->Option LK}(h:K[j]? =some z):(K.take (j+1)).filterMap f=(K.take j).filterMap f++(f z).toList:=by
 rw[take_add_one,h,filterMap_append]
 cases q:f z <;> simp[q]
theorem zvT(f:Int->Option LK)(K:List Int)(j:Nat):((K.take j).filterMap f).length<=K.length:=by
 have h1:=length_filterMap_le f (K.take j);rw[length_take]at h1;omega
theorem zjs(x:LK):(cLk x).length=2:=rfl
theorem zsx(x:LK):∀u∈cLk x,u.oneCell'=true:=λu hu=>by
 unfold cLk at hu;simp only[mem_cons,not_mem_nil,or_false]at hu;rcases hu with h | h <;> (rw[h];rfl)
theorem zsy:(prog.info? 283).map (λi=>(i.zero,i.size,i.bytes))=some (some (.agg #[.int .i64 0,.int .i64 0]),2,16):=oM
theorem zc2{S:World->Prop}{a:Go.Act}(hw:Region.wanted op (yielded ops a.tmps)=true)(t:TypeId)(x:Operand)(k:Nat)(ho:op.op= .field t x k)(vx vr:Value)(hx:a.eval x=vx)
  (Hf:∀W,(Instr.field t vx k).run prog W= .ok vr W):YieldsIf prog ops S op vr a:=
 .inl ⟨hw,λw _=>by
  unfold execOp;simp only[ho]
  simp[hx,Hf]⟩
theorem zxZ(a b:Int)(M:Nat->Int)(h:Bool)(W:World):(Instr.field 205 (.agg #[.int .i64 a,.int .i64 b,.int .i64 (M 0),.int .i64 (M 1),.int .i64 (M 2),.int .i64 (M 3),.int .i64 (M 4),.int .i64 (M 5),.int .i64 (M 6),.int .i64 (M 7),.int .i64 (M 8),.int .i64 (M 9),.int .i64 (M 10),.int .i64 (M 11),.bool h]) 1).run prog W= .ok (.int .i64 b) W:=oM
theorem zsz(x y:Int)(W:World):(Instr.buildSlice 210 1 #[(0,.agg ([.int .i64 x,.int .i64 y]:List Value).toArray)]).run prog W= .ok (.slice (some ⟨W.heap.size,0,none⟩) 1 1) (W.alloc (.cells ([.int .i64 x,.int .i64 y]:List Value).toArray 283)):=oM
abbrev zk4:=OwnX 2 cLk 283
section
variable {w:World} {p:Wp}
theorem zmz(h:LW w p){gl:Nat}{m:Int->Option Nd}(hm:MF nK w gl m){a:Option Addr}{n cap:Nat}{K:List Int}(row:Row w a n K)(hn:n<=1000)(hK:Rgs K):
  Calls prog 125 #[.pointer (some ⟨p.g,0,none⟩),.slice a n cap,.map (some gl)] w λe w'=>∃v1 v2,e= .returned (.tuple #[v1,v2])/\zk4 w' w.heap.size v1 (toL p.T m K)/\zk4 w' w.heap.size v2 (zbA p.T m K)/\Bw w w':=by
 have Hy:=row.2.1;have Kw:=kA row.1;have hJ:Hid (∀u,Bw w u->Row u a n K):=kA (λu q=>zar row q);have cY:Hid (∀u z,Bw w u->Rg z->Calls prog 191 #[.pointer (some ⟨p.g,0,none⟩),.int .i64 z] u λe w'=>e= .returned (.int .i64 (zcg p.T z))/\u=w'):=kA (λu z q hz=>zfW (h.keep q) hz);have D5:Hid (∀u z,Bw w u->Rg z->(Instr.lookup 204 (.map (some gl)) (.int .i64 z) false).run prog u= .ok (.agg #[.int .i64 ((m z).getD zNd).id,.int .i64 ((m z).getD zNd).par,.int .i64 (((m z).getD zNd).pl 0),.int .i64 (((m z).getD zNd).pl 1),.int .i64 (((m z).getD zNd).pl 2),.int .i64 (((m z).getD zNd).pl 3),.int .i64 (((m z).getD zNd).pl 4),.int .i64 (((m z).getD zNd).pl 5),.int .i64 (((m z).getD zNd).pl 6),.int .i64 (((m z).getD zNd).pl 7),.int .i64 (((m z).getD zNd).pl 8),.int .i64 (((m z).getD zNd).pl 9),.int .i64 (((m z).getD zNd).pl 10),.int .i64 (((m z).getD zNd).pl 11),.bool ((m z).getD zNd).hid]) u):=kA (λu z q hz=>(hm.keep q).get hz);have QG:=kA hK
 have dG:Hid (∀j z,K[j]? =some z->toL p.T m (K.take (j+1))=toL p.T m (K.take j)++(if zcg p.T z=wnt m z then [] else [(z,wnt m z)])/\zbA p.T m (K.take (j+1))=zbA p.T m (K.take j)++(if zcg p.T z=wnt m z then [] else [(z,zcg p.T z)])):=kA (λj z hz=>by
  unfold toL zbA;rw[zsw hz,zsw hz]
  by_cases c:zcg p.T z=wnt m z
  ·simp only[if_pos c];exact⟨rfl,rfl⟩
  ·simp only[if_neg c];exact⟨rfl,rfl⟩)
 have kJ:Hid (∀j,(toL p.T m (K.take j)).length<=n/\(zbA p.T m (K.take j)).length<=n):=kA (λj=>by
  rw[<-row.1]
  exact⟨zvT _ K j,zvT _ K j⟩)
 obtain⟨g,hge⟩:∃g,g=p.g:=⟨_,rfl⟩;obtain⟨T,hT⟩:∃T,T=p.T:=⟨_,rfl⟩;rw[<-hge]at cY ⊢;rw[<-hT]at cY dG kJ ⊢;clear h hm row hK hge hT;go_enter func125,ntmps125;go_wp2
 go_loopw [6,7,9,10,11,14] (λv6 v7 _ _ _ i wr=>∃j:Nat,j<=n/\i= .int .i64 j/\zk4 wr w.heap.size v6 (toL T m (K.take j))/\zk4 wr w.heap.size v7 (zbA T m (K.take j))/\(∀b,v6.ownBlock=some b->v7.ownBlock≠some b)/\Bw w wr) (λ_ _ _ _ _ i _=>n - (ivl i).toNat)
 case atStart=>exact⟨0,om,rfl,OwnX.nil _ _ _ _ _,OwnX.nil _ _ _ _ _,λb e=>(by cases e),Below.refl _ _⟩
 case round=>
  obtain⟨j,hj,rfl,h1,h2,h3,hb⟩:=hrel;have CE:=kA h1;have Dm:=kA h2;have dH:=kA h3;have HB:=kA hb;have Kf:=hJ.out wr hb;have tG:w.heap.size<=wr.heap.size:=hb.size;clear h1 h2 h3 hb
  by_cases hlt:j<n
  ·obtain⟨b,off,z,rfl,hz,cz⟩:=zci Kf hlt;have Ho:=World.block_lt_of_cell? _ _ cz;have KH:=QG.out z (mem_of_getElem? hz);have Hk:=kA (dG j z hz);have yZ:Hid (∀u,Bw wr u->Calls prog 191 #[.pointer (some ⟨g,0,none⟩),.int .i64 z] u λe w'=>e= .returned (.int .i64 (zcg T z))/\u=w'):=kA (λu q=>cY.out _ z (zad HB q) KH);have X6:Hid (∀u,Bw wr u->(Instr.lookup 204 (.map (some gl)) (.int .i64 z) false).run prog u= .ok (.agg #[.int .i64 ((m z).getD zNd).id,.int .i64 ((m z).getD zNd).par,.int .i64 (((m z).getD zNd).pl 0),.int .i64 (((m z).getD zNd).pl 1),.int .i64 (((m z).getD zNd).pl 2),.int .i64 (((m z).getD zNd).pl 3),.int .i64 (((m z).getD zNd).pl 4),.int .i64 (((m z).getD zNd).pl 5),.int .i64 (((m z).getD zNd).pl 6),.int .i64 (((m z).getD zNd).pl 7),.int .i64 (((m z).getD zNd).pl 8),.int .i64 (((m z).getD zNd).pl 9),.int .i64 (((m z).getD zNd).pl 10),.int .i64 (((m z).getD zNd).pl 11),.bool ((m z).getD zNd).hid]) u):=kA (λu q=>D5.out _ z (zad HB q) KH);have vI:wnt m z=if ((m z).getD zNd).par< -1 then -1 else ((m z).getD zNd).par:=rfl
   obtain⟨nd,DJ⟩:∃nd,nd=(m z).getD zNd:=⟨_,rfl⟩;rw[<-DJ]at X6 vI;obtain⟨pr,ZP⟩:∃pr,pr=nd.par:=⟨_,rfl⟩;rw[<-ZP]at X6 vI;obtain⟨hd,Y7⟩:∃hd,hd=zcg T z:=⟨_,rfl⟩;obtain⟨wv,Ni⟩:∃wv,wv=wnt m z:=⟨_,rfl⟩;rw[<-Y7]at yZ Hk;rw[<-Ni]at Hk vI;have Nj:=kA vI;have j0:(0:Int)<=(j:Int):=om;have j1:(j:Int)<(n:Int):=om;clear Kf hz KH DJ ZP Y7 Ni vI;go_wp2;have vC:max pr (-1)=wv:=by rw[Nj.out];split <;> omega
   refine wp_region_held_drew (S:=λw'=>(Instr.lookup 204 (.map (some gl)) (.int .i64 z) false).run prog w'= .ok (.agg #[.int .i64 nd.id,.int .i64 pr,.int .i64 (nd.pl 0),.int .i64 (nd.pl 1),.int .i64 (nd.pl 2),.int .i64 (nd.pl 3),.int .i64 (nd.pl 4),.int .i64 (nd.pl 5),.int .i64 (nd.pl 6),.int .i64 (nd.pl 7),.int .i64 (nd.pl 8),.int .i64 (nd.pl 9),.int .i64 (nd.pl 10),.int .i64 (nd.pl 11),.bool nd.hid]) w') oM (X6 _ (zav wr)) (λhHeld=> ?_);refine tk 0 hHeld ?_;refine tk 1 hHeld ?_;refine tk 3 hHeld ?_;refine tk 4 hHeld ?_;refine tk 5 hHeld ?_;refine wpAnyH_take (i:=6) (v:= .int .i64 pr) rfl oM oM oM (λ_ _ _ h=>h) (zc2 (by rfl) 205 _ 1 rfl (.agg #[.int .i64 nd.id,.int .i64 pr,.int .i64 (nd.pl 0),.int .i64 (nd.pl 1),.int .i64 (nd.pl 2),.int .i64 (nd.pl 3),.int .i64 (nd.pl 4),.int .i64 (nd.pl 5),.int .i64 (nd.pl 6),.int .i64 (nd.pl 7),.int .i64 (nd.pl 8),.int .i64 (nd.pl 9),.int .i64 (nd.pl 10),.int .i64 (nd.pl 11),.bool nd.hid]) _ rfl (zxZ _ _ _ _)) hHeld ?_;simp only[Act.put,getElem_toArray,getElem_cons_zero,getElem_cons_succ,setIfInBounds_toArray,set_cons_zero,set_cons_succ];refine tk 7 hHeld ?_;refine rd 2 (λK hK=> ?_);go_simp
   go_at_call 191
   refine (yZ _ (zav wr)).mono ?_;rintro e w9 ⟨rfl,rfl⟩;go_wp2_with fail;refine hK.out _ _ (X6 _ (zav wr)) (λhHeld=> ?_);clear hK K;refine tk 8 hHeld ?_;refine tk 9 hHeld ?_;refine wpAnyH_done oM ?_ _;refine fin (λW=>zk4 W w.heap.size u6 (toL T m (K.take j))/\zk4 W w.heap.size u7 (zbA T m (K.take j))/\Bw w W) ⟨CE.keep (zav wr),Dm.keep (zav wr),zad HB (zav wr)⟩ ?_;clear CE Dm HB Ho cz yZ X6 vC Nj;rintro W ⟨h1,h2,hb⟩;have CE:=kA h1;have Dm:=kA h2;have HB:=kA hb;have Ks:w.heap.size<=W.heap.size:=hb.size;clear h1 h2 hb tG
   by_cases Hd:hd=wv
   ·have kW:Hid (toL T m (K.take (j+1))=toL T m (K.take j)/\zbA T m (K.take (j+1))=zbA T m (K.take j)):=kA (by
     have:=Hk.out;rw[if_pos Hd,if_pos Hd,append_nil,append_nil]at this
     exact this)
    have tH:(hd != wv)=false:=by simpa using Hd
    go_wp2;go_roundw
    case rel=>exact⟨j+1,om,by go_num,by rw[kW.1];exact CE.out,by rw[kW.2];exact Dm.out,dH.out,HB⟩
    case measure=>simp[ivl] <;> omega
   ·have kW:Hid (toL T m (K.take (j+1))=toL T m (K.take j)++[(z,wv)]/\zbA T m (K.take (j+1))=zbA T m (K.take j)++[(z,hd)]):=kA (by
     have:=Hk.out;rw[if_neg Hd,if_neg Hd]at this
     exact this)
    have tH:(hd != wv)=true:=by simpa using Hd
    have cJ:=(kJ j).1;have Qq:=(kJ j).2
    go_wp2_with (first
     | refine zfs rfl 210 283 (.tmp 32) rfl [.int .i64 z,.int .i64 wv] rfl (zsz z wv) ?_
     | (at_builtin;refine zbT rfl (.tmp 29) (.tmp 33) 210 16 (.agg #[.int .i64 0,.int .i64 0]) rfl underlying210 zsy rfl (by decide) (by decide) zjs (z,wv) (zsx _) rfl (CE.keep (zaa _ _)) W.heap.size 1 rfl (zac (X:=cLk (z,wv)) (Blk.new W _ _)) om (by simp;omega) ?_))
    intro QV W2 k1 k2 k3;have Hl:Bw W (W.alloc (.cells ([.int .i64 z,.int .i64 wv]:List Value).toArray 283)):=zaa _ _
    have HA:Hid (zk4 W2 w.heap.size QV (toL T m (K.take (j+1)))/\zk4 W2 w.heap.size u7 (zbA T m (K.take j))/\(∀b,QV.ownBlock=some b->u7.ownBlock≠some b)/\Bw w W2):=kA (by
     have h7:=Dm.keep Hl;refine⟨by rw[kW.1];exact k1,h7.same (λb e=>k2.block b (h7.lt b e).2 (λq=>dH.out b q.symm e)),λb e q=> ?_,?_⟩
     ·rcases k3 with c | c
      ·exact dH.out b (c ▸ e) q
      ·rw[c]at e;injection e with e;have:=(Dm.lt b q).2
       try simp at e
       omega
     ·have Hv:=zad HB Hl
      exact⟨k2.os.trans Hv.os,k2.tape.trans Hv.tape,k2.output.trans Hv.output,Nat.le_trans Hv.size k2.size,λq hq=>(k2.block q (Nat.lt_of_lt_of_le hq Hv.size) (λe=>by have:=((CE.keep Hl).lt _ e.symm).1;omega)).trans (Hv.block q hq)⟩)
    clear k1 k2 k3 Hl CE Dm dH HB Ks;refine fin (λW=>zk4 W w.heap.size QV (toL T m (K.take (j+1)))/\zk4 W w.heap.size u7 (zbA T m (K.take j))/\(∀b,QV.ownBlock=some b->u7.ownBlock≠some b)/\Bw w W) HA ?_;clear HA;rintro W3 ⟨h1,h2,h3,hb⟩;have CE:=kA h1;have Dm:=kA h2;have dH:=kA h3;have HB:=kA hb;have Ks:w.heap.size<=W3.heap.size:=hb.size;clear h1 h2 h3 hb
    go_wp2_with (first
     | refine zfs rfl 210 283 (.tmp 38) rfl [.int .i64 z,.int .i64 hd] rfl (zsz z hd) ?_
     | (at_builtin;refine zbT rfl (.tmp 35) (.tmp 39) 210 16 (.agg #[.int .i64 0,.int .i64 0]) rfl underlying210 zsy rfl (by decide) (by decide) zjs (z,hd) (zsx _) rfl (Dm.keep (zaa _ _)) W3.heap.size 1 rfl (zac (X:=cLk (z,hd)) (Blk.new W3 _ _)) om (by simp;omega) ?_))
    intro N3 W4 k1 k2 k3;have Hl:Bw W3 (W3.alloc (.cells ([.int .i64 z,.int .i64 hd]:List Value).toArray 283)):=zaa _ _
    have HA:Hid (zk4 W4 w.heap.size QV (toL T m (K.take (j+1)))/\zk4 W4 w.heap.size N3 (zbA T m (K.take (j+1)))/\(∀b,QV.ownBlock=some b->N3.ownBlock≠some b)/\Bw w W4):=kA (by
     have h6:=CE.keep Hl;refine⟨h6.same (λb e=>k2.block b (h6.lt b e).2 (λq=>dH.out b e q.symm)),by rw[kW.2];exact k1,λb e q=> ?_,?_⟩
     ·rcases k3 with c | c
      ·exact dH.out b e (c ▸ q)
      ·rw[c]at q;injection q with q;have:=(CE.lt b e).2
       try simp at q
       omega
     ·have Hv:=zad HB Hl
      exact⟨k2.os.trans Hv.os,k2.tape.trans Hv.tape,k2.output.trans Hv.output,Nat.le_trans Hv.size k2.size,λq hq=>(k2.block q (Nat.lt_of_lt_of_le hq Hv.size) (λe=>by have:=((Dm.keep Hl).lt _ e.symm).1;omega)).trans (Hv.block q hq)⟩)
    clear k1 k2 k3 Hl CE Dm dH HB Ks;go_wp2;go_roundw
    case rel=>exact⟨j+1,om,by go_num,HA⟩
    case measure=>simp[ivl] <;> omega
  ·obtain rfl:j=n:=om;have e0:K.take j=K:=take_of_length_le (by rw[Kw.out];exact Nat.le_refl _);rw[e0]at CE Dm;have j1:¬(j:Int)<(j:Int):=om;clear e0 Kf;go_wp2;go_ret2;exact⟨_,_,rfl,CE.out,Dm.out,HB⟩
end
def zx0(m:Int->Option Nd)(l:List Nd):Int->Option Nd:=l.foldl (λm n=>upm m n.id (some n)) m
def zas(l:List Nd):Int->Option Nd:=zx0 (λ_=>none) l
theorem zk0:∀ (l:List Nd) (m:Int->Option Nd) (x:Int),zx0 m l x=(zas l x).or (m x)
 | [],m,x=>rfl
 | n::l,m,x=>by
  have h1:=zk0 l (upm m n.id (some n)) x;have h2:=zk0 l (upm (λ_=>none) n.id (some n)) x;show zx0 (upm m n.id (some n)) l x=(zx0 (upm (λ_=>none) n.id (some n)) l x).or (m x);rw[h1,h2];unfold upm
  by_cases c:x=n.id
  ·rw[if_pos c,if_pos c]
   cases zas l x <;> rfl
  ·rw[if_neg c,if_neg c]
   cases zas l x <;> rfl
theorem zsA{n:Nd}(h:l[j]? =some n):zas (l.take (j+1))=upm (zas (l.take j)) n.id (some n):=by
 unfold zas zx0;rw[take_add_one,h,foldl_append];rfl
theorem zu1{L:List Nd}(hn:(L.map Nd.id).Nodup)(n:Nd)(x:Int):elF Nd.id (zg0 L n) x=upm (elF Nd.id L) n.id (some n) x:=by
 unfold upm
 by_cases c:x=n.id
 ·rw[if_pos c,c];exact zdg (zeY hn n) (zb4.2 (.inr rfl))
 ·rw[if_neg c]
  exact zeX hn (λm hm=>by
   rw[zb4]
   exact⟨λq=>q.elim And.left (λe=>absurd (hm.symm.trans (congrArg Nd.id e)) c),λq=>Or.inl ⟨q,λe=>c (hm.symm.trans e)⟩⟩)
theorem zjt:∀ (l:List Nd) {L:List Nd},(L.map Nd.id).Nodup->∀x,elF Nd.id (withS L l) x=(zas l x).or (elF Nd.id L x)
 | [],L,_,x=>rfl
 | n::l,L,h,x=>by
  have ih:=zjt l (zeY h n) x;show elF Nd.id (withS (zg0 L n) l) x=(zx0 (upm (λ_=>none) n.id (some n)) l x).or (elF Nd.id L x);rw[ih,zk0,zu1 h];unfold upm
  by_cases c:x=n.id
  ·rw[if_pos c,if_pos c]
   cases zas l x <;> rfl
  ·rw[if_neg c,if_neg c]
   cases zas l x <;> rfl
theorem zsB:∀ {l:List Nd} {x:Int} {n:Nd},zas l x=some n->n.id=x/\n∈l
 | [],x,n,h=>by cases h
 | m::l,x,n,h=>by
  have h1:(zas l x).or (upm (λ_=>none) m.id (some m) x)=some n:=by rw[<-zk0];exact h
  cases q:zas l x with
  | some n'=>
   rw[q]at h1;have e:n'=n:=by injection h1
   have:=zsB (l:=l) q;rw[e]at this;exact⟨this.1,mem_cons_of_mem _ this.2⟩
  | none=>
   rw[q]at h1;unfold upm at h1
   by_cases c:x=m.id
   ·have h2:(if x=m.id then some m else none)=some n:=h1
    rw[if_pos c]at h2;injection h2 with h2;rw[<-h2];exact⟨c.symm,mem_cons_self⟩
   ·have h2:(if x=m.id then some m else none)=some n:=h1
    rw[if_neg c]at h2
    cases h2
theorem zgk:∀ {l:List Nd} {x:Int},(zas l x).isSome=true↔x∈l.map Nd.id
 | [],x=>by simp[zas,zx0]
 | m::l,x=>by
  have h1:zas (m::l) x=(zas l x).or (upm (λ_=>none) m.id (some m) x):=zk0 l _ x;have ih:=zgk (l:=l) (x:=x);rw[h1,map_cons,mem_cons,<-ih];unfold upm
  cases q:zas l x with
  | some n=>simp
  | none=>
   by_cases c:x=m.id
   ·simp[c]
   ·simp[c]
def zaw(l:List Nd):List Int:=zfi (l.map Nd.id)
theorem mem_keys:x∈zaw l↔(zas l x).isSome=true:=by
 unfold zaw;rw[zb0,zgk]
theorem zeA:∀ (X:List LK) (T:FT) {x:Int},x∉X.map Prod.fst->zak (zch T X).1 x=zak T x
 | [],_,_,_=>rfl
 | lk::r,T,x,h=>by
  rw[map_cons,mem_cons,not_or]at h;unfold zch
  by_cases c:lk.2<0
  ·rw[if_pos c];exact zeA r T h.2
  ·rw[if_neg c]
   by_cases d:zbr T lk.1 lk.2=0
   ·rw[if_pos d,zeA r _ h.2,zbZ,if_neg h.1]
   ·rw[if_neg d]
theorem zx1:∀ (X:List LK) (T:FT),(zch T X).2=0∨(zch T X).2=8
 | [],_=>Or.inl rfl
 | lk::r,T=>by
  unfold zch
  by_cases c:lk.2<0
  ·rw[if_pos c];exact zx1 r T
  ·rw[if_neg c]
   by_cases d:zbr T lk.1 lk.2=0
   ·rw[if_pos d];exact zx1 r _
   ·rw[if_neg d];refine .inr ?_;show zbr T lk.1 lk.2=8;unfold zbr at d ⊢
    split at d
    ·rename_i q;rw[if_pos q]
    ·exact absurd rfl d
theorem zgl:∀ (X:List LK) {T:FT},(X.map Prod.fst).Nodup->(∀c∈X.map Prod.fst,zak T c=none)->(zch T X).2=0->∀lk∈X,zak (zch T X).1 lk.1=if lk.2<0 then none else some lk.2
 | [],_,_,_,_,lk,h=>by cases h
 | k::r,T,hn,hf,he,lk,h=>by
  rw[map_cons,nodup_cons]at hn;unfold zch at he ⊢
  by_cases c:k.2<0
  ·rw[if_pos c]at he ⊢;rcases mem_cons.1 h with rfl | h
   ·rw[zeA r T hn.1,hf _ (by simp),if_pos c]
   ·exact zgl r hn.2 (λz hz=>hf z (mem_cons_of_mem _ hz)) he lk h
  ·rw[if_neg c]at he ⊢
   by_cases d:zbr T k.1 k.2=0
   ·rw[if_pos d]at he ⊢;rcases mem_cons.1 h with rfl | h
    ·rw[zeA r _ hn.1,zbZ,if_pos rfl,if_neg c]
    ·exact zgl r hn.2 (λz hz=>by
      rw[zbZ,if_neg (λe:z=k.1=>hn.1 (e ▸ hz))]
      exact hf z (mem_cons_of_mem _ hz)) he lk h
   ·rw[if_neg d]at he;exact absurd he d
theorem zx3{R:FT}(hT:WF T)(hR:WF R)(h:∀x y,zak T x=some y->zak R x=some y){x z:Int}(hz:z∈abv T x):z∈abv R x:=by
 have key:∀ (l:List Int) (x:Int),IsA T x l->z∈l->z∈abv R x:=by
  intro l
  induction l with
  | nil=>intro x _ q;cases q
  | cons y l ih=>
   intro x hx q;rw[za0 hR (h x y hx.1)];rcases mem_cons.1 q with rfl | q
   ·exact mem_cons_self
   ·exact mem_cons_of_mem _ (ih y hx.2 q)
 exact key _ x (hT.isA x) hz
theorem zgm{R:FT}(hR:WF R):∀ (X:List LK) {T:FT},WF T->(∀lk∈X,zak R lk.1=if lk.2<0 then none else some lk.2)->(∀x y,zak T x=some y->zak R x=some y)->(zch T X).2=0
 | [],_,_,_,_=>rfl
 | k::r,T,hT,hX,hs=>by
  unfold zch
  by_cases c:k.2<0
  ·rw[if_pos c];exact zgm hR r hT (λlk h=>hX lk (mem_cons_of_mem _ h)) hs
  ·rw[if_neg c];have hk:=hX k mem_cons_self;rw[if_neg c]at hk;have d:zbr T k.1 k.2=0:=by
    unfold zbr;rw[if_neg];rintro (q | q)
    ·have h1:=zx3 hT hR hs q;have h2:=za0 hR hk;exact (hR.isA k.1).self (by rw[h2];exact mem_cons_of_mem _ h1)
    ·exact zq5 hR k.1 (by rw[hk,q])
   rw[if_pos d];have Xo:WF (setF T k.1 k.2):=by
    have:=hT.set9 k.1 k.2;unfold zbD at this;rw[if_pos d]at this;exact this
   refine zgm hR r Xo (λlk h=>hX lk (mem_cons_of_mem _ h)) (λx y hx=> ?_);rw[zbZ]at hx
   by_cases e:x=k.1
   ·rw[if_pos e]at hx;injection hx with hx;rw[e,hk,hx]
   ·rw[if_neg e]at hx;exact hs x y hx
theorem zzt(T:FT)(m:Int->Option Nd)(K:List Int):(toL T m K).map Prod.fst=K.filter (λx=>decide (zcg T x≠wnt m x))/\(zbA T m K).map Prod.fst=K.filter (λx=>decide (zcg T x≠wnt m x)):=by
 unfold toL zbA
 induction K with
 | nil=>exact⟨rfl,rfl⟩
 | cons a K ih=>
  by_cases c:zcg T a=wnt m a
  ·rw[filterMap_cons_none (by rw[if_pos c]),filterMap_cons_none (by rw[if_pos c]),filter_cons_of_neg (by simp[c])];exact ih
  ·rw[filterMap_cons_some (b:=(a,wnt m a)) (by rw[if_neg c]),filterMap_cons_some (b:=(a,zcg T a)) (by rw[if_neg c]),filter_cons_of_pos (by simpa using c),map_cons,map_cons,ih.1,ih.2];exact⟨rfl,rfl⟩
theorem zsC{lk:LK}:(lk∈toL T m K↔lk.1∈K/\zcg T lk.1≠wnt m lk.1/\lk.2=wnt m lk.1)/\(lk∈zbA T m K↔lk.1∈K/\zcg T lk.1≠wnt m lk.1/\lk.2=zcg T lk.1):=by
 unfold toL zbA;rw[mem_filterMap,mem_filterMap];obtain⟨a,b⟩:=lk;constructor
 ·constructor
  ·rintro⟨x,hx,h⟩
   by_cases c:zcg T x=wnt m x
   ·rw[if_pos c]at h;cases h
   ·rw[if_neg c]at h;injection h with h;injection h with h1 h2;subst h1;exact⟨hx,c,h2.symm⟩
  ·rintro⟨h1,h2,h3⟩;exact⟨a,h1,by rw[if_neg h2];show some (a,wnt m a)=some (a,b);rw[show b=wnt m a from h3]⟩
 ·constructor
  ·rintro⟨x,hx,h⟩
   by_cases c:zcg T x=wnt m x
   ·rw[if_pos c]at h;cases h
   ·rw[if_neg c]at h;injection h with h;injection h with h1 h2;subst h1;exact⟨hx,c,h2.symm⟩
  ·rintro⟨h1,h2,h3⟩;exact⟨a,h1,by rw[if_neg h2];show some (a,zcg T a)=some (a,b);rw[show b=zcg T a from h3]⟩
section
variable {D:FD} {p:Wp} {l:List Nd}
theorem LIf.parM0(h:LIf D p)(x:Int):zak p.T x=if zcg p.T x<0 then none else some (zcg p.T x):=by
 unfold zcg
 cases e:zak p.T x with
 | none=>rfl
 | some y=>
  rw[h.par]at e;obtain⟨n,_,_,c,e2⟩:=zhw.1 (zbp e);show some y=if y<0 then none else some y
  rw[if_neg om]
theorem zsD(hD:DOk D)(h:LIf D p)(x:Int):zak (zez (withS D.L l)) x=if x∈zaw l then (if wnt (zas l) x<0 then none else some (wnt (zas l) x)) else zak p.T x:=by
 have kB:=zcK l hD.nod;have he:=zjt l hD.nod x
 by_cases c:x∈zaw l
 ·rw[if_pos c];obtain⟨n,hn⟩:=Option.isSome_iff_exists.1 (mem_keys.1 c);rw[hn]at he;rw[zdA kB he];unfold wnt;rw[hn];show (if 0<=n.par then some n.par else none)=if (if n.par< -1 then (-1:Int) else n.par)<0 then none else some (if n.par< -1 then (-1:Int) else n.par)
  by_cases d:n.par< -1
  ·rw[if_pos d,if_neg om,if_pos om]
  ·rw[if_neg d]
   by_cases f:0<=n.par
   ·rw[if_pos f,if_neg om]
   ·rw[if_neg f,if_pos om]
 ·rw[if_neg c];have hno:zas l x=none:=by
   cases q:zas l x with
   | none=>rfl
   | some n=>exact absurd (mem_keys.2 (by rw[q];rfl)) c
  rw[hno]at he;have he:elF Nd.id (withS D.L l) x=elF Nd.id D.L x:=he;rw[h.par]
  cases q:elF Nd.id D.L x with
  | none=>rw[zcD (he.trans q),zcD q]
  | some n=>rw[zdA kB (he.trans q),zdA hD.nod q]
theorem LIf.moves(hD:DOk D)(h:LIf D p)(hb:l.any zhF=false):
  (zch (zax p.T ((toL p.T (zas l) (zaw l)).map Prod.fst)) (toL p.T (zas l) (zaw l))).2=zct D l/\WF (zk3 p.T (toL p.T (zas l) (zaw l)) (zbA p.T (zas l) (zaw l)))/\
   (zct D l=0->∀x,zak (zk3 p.T (toL p.T (zas l) (zaw l)) (zbA p.T (zas l) (zaw l))) x=zak (zez (withS D.L l)) x)/\
   (zct D l≠0->∀x,zak (zk3 p.T (toL p.T (zas l) (zaw l)) (zbA p.T (zas l) (zaw l))) x=zak p.T x):=by
 obtain⟨X,hX⟩:∃X,X=toL p.T (zas l) (zaw l):=⟨_,rfl⟩;obtain⟨Y,hY⟩:∃Y,Y=zbA p.T (zas l) (zaw l):=⟨_,rfl⟩;have vJ:=zzt p.T (zas l) (zaw l);have Xe:=λlk=>zsC (T:=p.T) (m:=zas l) (K:=zaw l) (lk:=lk);rw[<-hX,<-hY]at vJ ⊢;rw[<-hX,<-hY]at Xe;have DJ:(X.map Prod.fst).Nodup:=by rw[vJ.1];exact (zg4 (zfu _)).sublist filter_sublist
 have hcs:∀x,x∈X.map Prod.fst↔x∈zaw l/\zcg p.T x≠wnt (zas l) x:=λx=>by rw[vJ.1,mem_filter,decide_eq_true_eq]
 have cd:Y.map Prod.fst=X.map Prod.fst:=vJ.2.trans vJ.1.symm;have dK:WF (zax p.T (X.map Prod.fst)):=WF.frees _ h.wf;have kw:∀x,zak (zax p.T (X.map Prod.fst)) x=if x∈X.map Prod.fst then none else zak p.T x:=λx=>zdf x _ _
 have vK:∀lk∈X,zak (zez (withS D.L l)) lk.1=if lk.2<0 then none else some lk.2:=λlk Kz=>by
  obtain⟨k1,k2,k3⟩:=(Xe lk).1.1 Kz;rw[zsD hD h,if_pos k1,k3]
 have Zv:∀x,x∉X.map Prod.fst->zak p.T x=zak (zez (withS D.L l)) x:=λx hx=>by
  rw[zsD hD h]
  by_cases c:x∈zaw l
  ·rw[if_pos c];have e:zcg p.T x=wnt (zas l) x:=by
    by_cases d:zcg p.T x=wnt (zas l) x
    ·exact d
    ·exact absurd ((hcs x).2 ⟨c,d⟩) hx
   rw[<-e];exact h.parM0 x
  ·rw[if_neg c]
 have da:(zch (zax p.T (X.map Prod.fst)) X).2=0->∀x,zak (zch (zax p.T (X.map Prod.fst)) X).1 x=zak (zez (withS D.L l)) x:=λh0 x=>by
  by_cases c:x∈X.map Prod.fst
  ·obtain⟨lk,Kz,e⟩:=mem_map.1 c;have h1:=zgl X DJ (λz hz=>by rw[kw,if_pos hz]) h0 lk Kz;rw[<-e,h1,vK lk Kz]
  ·rw[zeA X _ c,kw,if_neg c];exact Zv x c
 have kB:=zcK l hD.nod;have Nk:zct D l=if (withS D.L l).any (λn=>zhE (withS D.L l) n.id) then 8 else 0:=by
  unfold zct;rw[hb];simp
 have tJ:=zkZ X dK
 by_cases h0:zct D l=0
 ·have kY:=zlM kB (zfw h0).2;have hR:=zvQ kB kY
  have hg:(zch (zax p.T (X.map Prod.fst)) X).2=0:=zgm hR X dK vK (λx y hx=>by
   rw[kw]at hx
   by_cases c:x∈X.map Prod.fst
   ·rw[if_pos c]at hx;cases hx
   ·rw[if_neg c]at hx;rw[<-Zv x c]
    exact hx)
  have hm:zk3 p.T X Y=(zch (zax p.T (X.map Prod.fst)) X).1:=by unfold zk3;rw[if_pos hg]
  rw[hm];exact⟨by rw[hg,h0],tJ,λ_=>da hg,λc=>absurd h0 c⟩
 ·have h8:zct D l=8:=by
   rw[Nk]at h0 ⊢
   split
   ·rfl
   ·rename_i q;rw[if_neg q]at h0;exact absurd rfl h0
  have hg:(zch (zax p.T (X.map Prod.fst)) X).2=8:=by
   rcases zx1 X (zax p.T (X.map Prod.fst)) with q | q
   ·exfalso;have eV:=zAD (zmt kB) (da q) tJ;have eW:=zzo kB eV;refine h0 ?_;rw[Nk,if_neg];rw[any_eq_true];rintro⟨n,_,hr⟩;rw[zkk kB eW]at hr
    cases hr
   ·exact q
  have hm:zk3 p.T X Y=(zch (zax (zch (zax p.T (X.map Prod.fst)) X).1 (Y.map Prod.fst)) Y).1:=by unfold zk3;rw[if_neg (by rw[hg];omega)]
  have qP:∀x,zak (zax (zch (zax p.T (X.map Prod.fst)) X).1 (Y.map Prod.fst)) x=if x∈X.map Prod.fst then none else zak p.T x:=λx=>by
   rw[zdf,cd]
   by_cases c:x∈X.map Prod.fst
   ·rw[if_pos c,if_pos c]
   ·rw[if_neg c,if_neg c,zeA X _ c,kw,if_neg c]
  have sg:WF (zax (zch (zax p.T (X.map Prod.fst)) X).1 (Y.map Prod.fst)):=WF.frees _ tJ;have vL:∀lk∈Y,zak p.T lk.1=if lk.2<0 then none else some lk.2:=λlk Kz=>by
   obtain⟨_,_,k3⟩:=(Xe lk).2.1 Kz;rw[k3];exact h.parM0 lk.1
  have Ko:(zch (zax (zch (zax p.T (X.map Prod.fst)) X).1 (Y.map Prod.fst)) Y).2=0:=zgm h.wf Y sg vL (λx y hx=>by
   rw[qP]at hx
   by_cases c:x∈X.map Prod.fst
   ·rw[if_pos c]at hx;cases hx
   ·rw[if_neg c]at hx;exact hx)
  refine⟨by rw[hg,h8],by rw[hm];exact zkZ Y sg,λc=>absurd c h0,λ_ x=> ?_⟩;rw[hm]
  by_cases c:x∈X.map Prod.fst
  ·rw[<-cd]at c;obtain⟨lk,Kz,e⟩:=mem_map.1 c;have h1:=zgl Y (by rw[cd];exact DJ) (λz hz=>by rw[qP,if_pos (by rw[<-cd];exact hz)]) Ko lk Kz;rw[<-e,h1,vL lk Kz]
  ·rw[zeA Y _ (by rw[cd];exact c),qP,if_neg c]
end
theorem zin{D':FD}(h:DOk D)(kB:(D'.L.map Nd.id).Nodup)(kY:WF (zaj D'.L))(hb:D'.begun=D.begun)(hd:∀z∈D.dirty,z∈D'.dirty)
  (dz:∀y,y∉D'.dirty->(elF Nd.id D'.L y).isSome=true->elF Nd.id D'.L y=elF Nd.id D.L y)
  (ZQ:∀y,y∉D'.dirty->(elF Nd.id D'.L y).isSome=true->(0<=zap D'.L y->zap D'.L y∉D'.dirty)->zap D'.L y=zap D.L y)
  (dh:D'.begun=true){x:Int}(hx:(elF Nd.id D'.L x).isSome=true)(ht:x∉zah D'):
  x∉D'.dirty/\(elF Nd.id D.L x).isSome=true/\x∉zah D/\stv D'.L x=stv D.L x:=by
 have DJ:∀y∈x::abv (zaj D'.L) x,y∉D'.dirty:=λy hy YC=>ht ((zbk kY).2 (by
  rcases mem_cons.1 hy with rfl | hy
  ·exact⟨y,(zb3 dh).2 ⟨YC,hx⟩,.inl rfl⟩
  ·exact⟨y,(zb3 dh).2 ⟨YC,znm kY hy⟩,.inr hy⟩))
 obtain⟨k1,k2⟩:=zgg h.nod kB dz ZQ (abv (zaj D'.L) x) x (kY.isA x) hx DJ;have ea:abv (zaj D.L) x=abv (zaj D'.L) x:=(h.wf.isA x).uniq k1;refine⟨DJ x mem_cons_self,by rw[<-k2 x mem_cons_self];exact hx,λc=> ?_,?_⟩
 ·obtain⟨y,hy,xG⟩:=(zbk h.wf).1 c;have YC:=hd y ((zb3 (hb ▸ dh)).1 hy).1;refine DJ y ?_ YC;rcases xG with rfl | q
  ·exact mem_cons_self
  ·rw[ea]at q;exact mem_cons_of_mem _ q
 ·have e1:zb2 D'.L x=zb2 D.L x:=by
   unfold zb2;rw[ea];exact zdx k2
  unfold stv;rw[e1,ea]
end Go.Proofs.YtlibdcmcbinfnaaGreat
