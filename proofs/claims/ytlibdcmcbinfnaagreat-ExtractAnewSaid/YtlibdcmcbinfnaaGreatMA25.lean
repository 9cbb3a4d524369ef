/- Lemmas. -/
import Derived.Test.YtlibdcmcbinfnaaGreatMA24
set_option maxHeartbeats 100000000
set_option maxRecDepth 1000000
namespace Go.Proofs.YtlibdcmcbinfnaaGreat
open _root_.Go.Proofs.Tryz List Nat
open Go.RowKit
variable{k g:Nat}{t:TypeId}{w:World}{X:List Rc}{x y:Rc}
theorem MR.tail{c:Rc->List Value}(hc:∀x,(c x).length=k){t:TypeId}{w:World}{g:Nat}{A B:List Rc}(h:MR k c t w g (A++B)){zs:List Value}(hz:zs.length<=B.length*k):MR k c t (w.setCells g (A.length*k) zs) g A:=by
 obtain⟨cur,hb,hl,ht⟩:=h;rw[length_append,Nat.add_mul]at hl ht;have dh:=zaf zs (o:=A.length*k) hb om;refine⟨_,dh,by rw[zb8 om];omega,?_⟩;have e:cur.take (A.length*k)=A.flatMap c:=by
  have:=congrArg (take (A.length*k)) ht;rw[take_take,Nat.min_eq_left om,flatMap_append]at this;rw[this];rw[<-zgO hc A,take_left]
 unfold zaM;rw[append_assoc,take_append_of_le_length (by rw[length_take];omega),take_take,Nat.min_self];exact e
theorem zny{t:Nat}(hx:X[t+1]? =some x)(hy:X[t]? =some y)(h:(x.id==y.id)=true):zbc X (t+1+1)=zbc X (t+1):=by
 show zbc X (t+1)++_=_;rw[zi3 hx hy,h];simp
theorem zrw{t:Nat}(hx:X[t+1]? =some x)(hy:X[t]? =some y)(h:(x.id==y.id)=false):zbc X (t+1+1)=zbc X (t+1)++[x]:=by
 show zbc X (t+1)++_=_;rw[zi3 hx hy,h,hx];simp
theorem zt4(hx:X[0]? =some x):zbc X 1=X.take 1:=by
 show []++_=_;rw[zkt hx,hx,take_one,head?_eq_getElem?,hx];simp
theorem zt5(g n cap:Nat)(X:List Rc)(w:World)(hX:MR 12 cRc 92 w g X)(hn:X.length=n)(Hy:n<=1000000)(hpos:0<n)(hcap:n<=cap)(KD:cap<=maxLen):
  Calls prog 223 #[.slice (some ⟨g,0,none⟩) n cap,.func (.func 219) #[] #[]] w λe w'=>∃m,e= .returned (.slice (some ⟨g,0,none⟩) m cap)/\(zbc X n).length=m/\DR w 92 g w' (zbc X n):=by
 have H0:Hid (DR w 92 g w X):=kA (DR.start hX);have kJ:=kA hn;obtain⟨x0,Qf⟩:∃x,X[0]? =some x:=⟨_,getElem?_eq_getElem om⟩;have Qg:=kA (zt4 Qf);have hE:=zl0;unfold zbt at hE;unfold maxLen at KD;clear hX hn Qf
 by_cases h2:n<2
 ·have HE:Hid (zbc X n=X):=kA (by
   obtain rfl:n=1:=om
   rw[Qg.out,take_of_length_le (by rw[kJ.out];exact Nat.le_refl _)])
  have g1:(n:Int)<2:=om;go_enter func223,ntmps223;go_wp2;go_ret;exact⟨n,rfl,by rw[HE.out];exact kJ.out,by rw[HE.out];exact H0.out⟩
 ·have g1:¬(n:Int)<2:=om;go_enter func223,ntmps223;go_wp2
  go_loopw [5,6,7] (λv5 _ _ wr=>∃q:Nat,v5= .int .i64 ((q+1:Nat):Int)/\q+1<=n/\DR w 92 g wr X/\zbc X (q+1)=X.take (q+1)) (λv5 _ _ _=>n - (ivl v5).toNat)
  case atStart=>exact⟨0,rfl,om,H0.out,Qg⟩
  case round=>
   clear H0 Qg;obtain⟨q,rfl,hq,hd,hc⟩:=hrel;have HD:=kA hd;have HC:=kA hc;clear hd hc
   by_cases hlt:q+1<n
   ·have CO:=kJ.out;obtain⟨x,hx⟩:∃x,X[q+1]? =some x:=⟨_,getElem?_eq_getElem om⟩;obtain⟨y,hy⟩:∃y,X[q]? =some y:=⟨_,getElem?_eq_getElem om⟩;have HS:Hid (∀W,Bw wr W->W.rangeAt g ((q+1)*12) (cRc x)/\W.rangeAt g (q*12) (cRc y)):=kA (λW hb=>⟨ (HD.below hb).1.range zaz hx,(HD.below hb).1.range zaz hy⟩);have KI:Hid (∀W,Calls prog 219 #[.agg (cRc x).toArray,.agg (cRc y).toArray] W λe w'=>e= .returned (.bool ((x).id==(y).id))/\Bw W w'):=kA (λW=>zd0 x y W);have Ha:Hid (((prog.info? 92).map (·.size)=some (cRc x).length)/\((prog.info? 92).map (·.size)=some (cRc y).length)):=kA ⟨zaK x,zaK y⟩;obtain⟨XP,dL⟩:∃XP,XP=cRc x:=⟨_,rfl⟩;obtain⟨XQ,DC⟩:∃XQ,XQ=cRc y:=⟨_,rfl⟩;rw[<-dL,<-DC]at KI Ha HS;clear dL DC;have Ht:Hid ((x.id==y.id)=true->zbc X (q+1+1)=X.take (q+1)):=kA (λh=>by rw[zny hx hy h,HC.out]);have Hr:Hid ((x.id==y.id)=false->zbc X (q+1+1)=X.take (q+1+1)):=kA (λh=>by rw[zrw hx hy h,HC.out,take_add_one (i:=q+1),hx];rfl);obtain⟨bb,Kt⟩:∃bb,bb=(x.id==y.id):=⟨_,rfl⟩;rw[<-Kt]at KI Ht Hr;have xA:IntKind.i64.wrap (((q+1:Nat):Int) - 1)=(q:Int):=by rw[show ((q+1:Nat):Int) - 1=(q:Int) by omega];exact IntWalk.i64_in _ om
    obtain⟨p,hp⟩:∃p,p=q+1:=⟨_,rfl⟩;rw[<-hp]at xA HS Ht Hr hlt hq ⊢;have p0:(0:Int)<=(p:Int):=om;have p1:(p:Int)<(n:Int):=om;have q0:(0:Int)<=(q:Int):=om;have q1:(q:Int)<(n:Int):=om;have HP:=kA hp;clear hp hx hy Kt CO HC
    cases bb
    ·go_wp2_with fail;refine wp_region_held_drew (S:=λw'=>w'.rangeAt g (p*12) XP/\w'.rangeAt g (q*12) XQ) oM (HS _ (zaE (Below.refl _ _))) (λhHeld=> ?_);refine tk 0 hHeld ?_;refine tk 1 hHeld ?_;refine tk 2 hHeld ?_;refine tk 3 hHeld ?_;refine tkl 4 rfl (yieldsIf_load_mid (by rfl) _ _ rfl _ _ rfl _ _ (λ_ h=>h.1) underlying92 rfl Ha.1) hHeld ?_;refine tk 5 hHeld ?_;refine tk 6 hHeld ?_;refine tk 7 hHeld ?_;refine tk 8 hHeld ?_;refine tkl 9 rfl (yieldsIf_load_mid (by rfl) _ _ rfl _ _ rfl _ _ (λ_ h=>h.2) underlying92 rfl Ha.2) hHeld ?_;refine rd 10 (λK hK=> ?_);go_simp;refine (KI _).mono ?_;rintro e w1 ⟨rfl,b1⟩;go_wp2_with fail;refine hK.out _ _ (HS _ (zad (zaE (Below.refl _ _)) b1)) (λhHeld=> ?_);clear hK K;refine wpAnyH_done oM ?_ _;clear hHeld;refine fin (λW=>Bw wr W) (zad (zaE (Below.refl _ _)) b1) ?_;clear b1 HS KI;rintro W KU;have dT:=kA KU;clear KU;have dZ:=kA (HD.below dT);have KT:=kA (Hr (by trivial));clear HD dT Ht Hr;go_wp2;go_roundw
     case rel=>exact⟨p,by go_num,om,dZ.out,KT⟩
     case measure=>simp[ivl] <;> omega
    ·go_wp2_with fail;refine wp_region_held_drew (S:=λw'=>w'.rangeAt g (p*12) XP/\w'.rangeAt g (q*12) XQ) oM (HS _ (zaE (Below.refl _ _))) (λhHeld=> ?_);refine tk 0 hHeld ?_;refine tk 1 hHeld ?_;refine tk 2 hHeld ?_;refine tk 3 hHeld ?_;refine tkl 4 rfl (yieldsIf_load_mid (by rfl) _ _ rfl _ _ rfl _ _ (λ_ h=>h.1) underlying92 rfl Ha.1) hHeld ?_;refine tk 5 hHeld ?_;refine tk 6 hHeld ?_;refine tk 7 hHeld ?_;refine tk 8 hHeld ?_;refine tkl 9 rfl (yieldsIf_load_mid (by rfl) _ _ rfl _ _ rfl _ _ (λ_ h=>h.2) underlying92 rfl Ha.2) hHeld ?_;refine rd 10 (λK hK=> ?_);go_simp;refine (KI _).mono ?_;rintro e w1 ⟨rfl,b1⟩;go_wp2_with fail;refine hK.out _ _ (HS _ (zad (zaE (Below.refl _ _)) b1)) (λhHeld=> ?_);clear hK K;refine wpAnyH_done oM ?_ _;clear hHeld;refine fin (λW=>Bw wr W) (zad (zaE (Below.refl _ _)) b1) ?_;clear b1 HS KI;rintro W KU;have dT:=kA KU;clear KU;have dZ:=kA (HD.below dT);have KT:=kA (Ht (by trivial));clear HD dT Ht Hr;have ZT:Hid ((zbc X (p+1)).length=p):=kA (by rw[KT.out,length_take,kJ.out];omega);have ZU:Hid (DR w 92 g W (zbc X (p+1)++X.drop (zbc X (p+1)).length)):=kA (by rw[ZT.out,KT.out,take_append_drop];exact dZ);have ncap:¬cap=p:=om;clear KT dZ;go_wp2
     go_loopw [5,7] (λv5 v7 wr=>∃j:Nat,v7= .int .i64 ((j+1:Nat):Int)/\v5= .int .i64 ((zbc X (p+j+1)).length:Int)/\p+j+1<=n/\(zbc X (p+j+1)).length<p+j+1/\DR w 92 g wr (zbc X (p+j+1)++X.drop (zbc X (p+j+1)).length)) (λ_ v7 _=>n - (ivl v7).toNat)
     case atStart=>exact⟨0,rfl,by rw[Nat.add_zero,ZT.out],om,by rw[Nat.add_zero,ZT.out];omega,ZU⟩
     case round=>
      clear ZU ZT;obtain⟨j,rfl,rfl,SD,ZL,hd⟩:=hrel;have YE:=zi4 X (p+j+1) (by rw[kJ.out];exact SD);have yM:Hid (∀x y,X[p+j+1]? =some x->X[p+j]? =some y->((x.id==y.id)=true->zbc X (p+j+1+1)=zbc X (p+j+1))/\((x.id==y.id)=false->zbc X (p+j+1+1)=zbc X (p+j+1)++[x])):=kA (λx y hx hy=>⟨zny hx hy,zrw hx hy⟩);obtain⟨C,hC⟩:∃C,C=zbc X (p+j+1):=⟨_,rfl⟩;have Qh:=kA hC;rw[<-hC]at ZL hd YE yM ⊢;obtain⟨kk,hk⟩:∃kk,kk=C.length:=⟨_,rfl⟩;rw[<-hk]at ZL hd YE ⊢;have HK:=kA hk;have HD:=kA hd;clear hC hk hd;have zK:Hid ((C++X.drop kk).length=n):=kA (by rw[length_append,length_drop,<-HK.out,kJ.out];omega)
      by_cases D7:p+j+1<n
      ·have CO:=kJ.out;obtain⟨x2,xB⟩:∃x,X[p+j+1]? =some x:=⟨_,getElem?_eq_getElem om⟩;obtain⟨y2,dO⟩:∃y,X[p+j]? =some y:=⟨_,getElem?_eq_getElem om⟩;have zx:(C++X.drop kk)[p+j+1]? =some x2:=by
        rw[getElem?_append_right (by rw[<-HK.out];omega),getElem?_drop,<-HK.out,show kk+(p+j+1 - kk)=p+j+1 by omega];exact xB
       have zy:(C++X.drop kk)[p+j]? =some y2:=by
        rw[getElem?_append_right (by rw[<-HK.out];omega),getElem?_drop,<-HK.out,show kk+(p+j - kk)=p+j by omega];exact dO
       obtain⟨kP,kH⟩:=yM.out x2 y2 xB dO;obtain⟨p2,C5⟩:∃p2,p2=j+1:=⟨_,rfl⟩;have HS:Hid (∀W,Bw wr W->W.rangeAt g (p*12+p2*12) (cRc x2)/\W.rangeAt g (p*12+j*12) (cRc y2)):=kA (λW hb=>⟨(λq=>by rw[show p*12+p2*12=(p+j+1)*12 by omega];exact q) <| (HD.below hb).1.range zaz zx,(λq=>by rw[show p*12+j*12=(p+j)*12 by omega];exact q) <| (HD.below hb).1.range zaz zy⟩);have KI:Hid (∀W,Calls prog 219 #[.agg (cRc x2).toArray,.agg (cRc y2).toArray] W λe w'=>e= .returned (.bool ((x2).id==(y2).id))/\Bw W w'):=kA (λW=>zd0 x2 y2 W);have Ha:Hid (((prog.info? 92).map (·.size)=some (cRc x2).length)/\((prog.info? 92).map (·.size)=some (cRc y2).length)):=kA ⟨zaK x2,zaK y2⟩;obtain⟨XP,dL⟩:∃XP,XP=cRc x2:=⟨_,rfl⟩;obtain⟨XQ,DC⟩:∃XQ,XQ=cRc y2:=⟨_,rfl⟩;rw[<-dL,<-DC]at KI Ha HS;clear dL DC;have Ht:Hid ((x2.id==y2.id)=true->zbc X (p+j+1+1)=C):=kA kP;have Hr:Hid ((x2.id==y2.id)=false->zbc X (p+j+1+1)=C++[x2]):=kA kH;obtain⟨bb,Kt⟩:∃bb,bb=(x2.id==y2.id):=⟨_,rfl⟩;rw[<-Kt]at KI Ht Hr;have XI:IntKind.i64.wrap (((j+1:Nat):Int) - 1)=(j:Int):=by rw[show ((j+1:Nat):Int) - 1=(j:Int) by omega];exact IntWalk.i64_in _ om
       rw[<-C5]at XI ⊢;have a0:(0:Int)<=(p2:Int):=om;have a1:(p2:Int)<((n - p:Nat):Int):=om;have b0:(0:Int)<=(j:Int):=om;have Gk:(j:Int)<((n - p:Nat):Int):=om;have Xg:=kA C5
       have Kx:Hid (∀W,Bw wr W->W.rangeAt g (p*12+p2*12) (cRc x2)/\W.there g (kk*12) 12/\DR w 92 g (W.setCells g (kk*12) (cRc x2)) ((C++X.drop kk).set kk x2)):=kA (λW hb=>by
        have hD:=HD.below hb;have hl:=zK.out
        refine⟨by rw[show p*12+p2*12=(p+j+1)*12 by omega];exact hD.1.range zaz zx,hD.1.there om,hD.1.set_ zaz om x2,zaq hD.2 (zbQ _ _ _ _)⟩)
       have Ky:Hid ((C++X.drop kk).set kk x2=(C++[x2])++X.drop (kk+1)):=kA (by
        have e:X.drop kk=X[kk]'(by omega)::X.drop (kk+1):=drop_eq_getElem_cons om;rw[e];have:=zlY C (X[kk]'(by omega)) x2 (X.drop (kk+1));rw[<-HK.out]at this;rw[this]
        simp)
       clear C5 xB dO zx zy kP kH Kt CO yM
       cases bb
       ·have k0:(0:Int)<=(kk:Int):=om;have k1:(kk:Int)<(n:Int):=om;go_wp2_with fail;refine wp_region_held_drew (S:=λw'=>w'.rangeAt g (p*12+p2*12) XP/\w'.rangeAt g (p*12+j*12) XQ) oM (HS.out _ (zaE (Below.refl _ _))) (λhHeld=> ?_);refine tk 0 hHeld ?_;refine tk 1 hHeld ?_;refine tk 2 hHeld ?_;refine tk 3 hHeld ?_;refine tkl 4 rfl (yieldsIf_load_mid (by rfl) _ _ rfl _ _ rfl _ _ (λ_ h=>h.1) underlying92 rfl Ha.out.1) hHeld ?_;refine tk 5 hHeld ?_;refine tk 6 hHeld ?_;refine tk 7 hHeld ?_;refine tk 8 hHeld ?_;refine tkl 9 rfl (yieldsIf_load_mid (by rfl) _ _ rfl _ _ rfl _ _ (λ_ h=>h.2) underlying92 rfl Ha.out.2) hHeld ?_;refine rd 10 (λK hK=> ?_);go_simp;refine (KI.out _).mono ?_;rintro e w1 ⟨rfl,b1⟩;go_wp2_with fail;refine hK.out _ _ (HS.out _ (zad (zaE (Below.refl _ _)) b1)) (λhHeld=> ?_);clear hK K;refine tk 11 hHeld ?_;refine wpAnyH_done oM ?_ _;clear hHeld;refine fin (λW=>Bw wr W) (zad (zaE (Below.refl _ _)) b1) ?_;clear b1 HS KI;rintro W KU;have dT:=kA KU;clear KU;have Vq:=kA (Kx.out W dT.out);have KT:=kA (Hr.out (by trivial));obtain⟨XZ,xL⟩:∃XZ,XZ=cRc x2:=⟨_,rfl⟩;rw[<-xL]at Vq;have Xm:Hid (XZ.length=12/\XZ.toArray.all (·.oneCell')=true):=kA (by rw[xL];exact⟨rfl,zbV _⟩);have kW:Hid ((prog.info? 92).map (·.size)=some XZ.length):=kA (by rw[xL];exact zaK x2);have dC:Hid ((prog.info? 92).map (·.size)=some XZ.toArray.size):=kA (by rw[size_toArray];exact kW.out);have kt:Hid (W.there g (kk*12) XZ.toArray.size):=kA (by rw[size_toArray,Xm.out.1];exact Vq.out.2.1);clear HD dT Ht Hr Kx xL;have dZ:Hid (DR w 92 g (W.setCells g (kk*12) XZ) ((C++[x2])++X.drop (kk+1))):=kA (Ky.out ▸ Vq.out.2.2)
        have dX:Hid ((zbc X (p+(j+1)+1)).length=kk+1/\zbc X (p+(j+1)+1)=C++[x2]):=kA (by
         rw[show p+(j+1)+1=p+j+1+1 by omega,KT.out]
         exact⟨by rw[length_append,<-HK.out];rfl,rfl⟩)
        clear Ky
        go_wp2_with (first
         | refine wpList_load_mid rfl 92 (.tmp 54) rfl g (p*12+p2*12) rfl XZ _ Vq.1 underlying92 rfl kW ?_
         | refine wpList_store_mid rfl 92 (.tmp 56) (.tmp 55) rfl g (kk*12) XZ.toArray rfl rfl kt dC Xm.2 ?_)
        go_roundw
        case rel=>exact⟨j+1,by have:=Xg.out;go_num,by rw[dX.1];go_num,om,by rw[dX.1];omega,by rw[dX.1,dX.2];exact dZ.out⟩
        case measure=>have:=Xg.out;simp[ivl] <;> omega
       ·go_wp2_with fail;refine wp_region_held_drew (S:=λw'=>w'.rangeAt g (p*12+p2*12) XP/\w'.rangeAt g (p*12+j*12) XQ) oM (HS _ (zaE (Below.refl _ _))) (λhHeld=> ?_);refine tk 0 hHeld ?_;refine tk 1 hHeld ?_;refine tk 2 hHeld ?_;refine tk 3 hHeld ?_;refine tkl 4 rfl (yieldsIf_load_mid (by rfl) _ _ rfl _ _ rfl _ _ (λ_ h=>h.1) underlying92 rfl Ha.1) hHeld ?_;refine tk 5 hHeld ?_;refine tk 6 hHeld ?_;refine tk 7 hHeld ?_;refine tk 8 hHeld ?_;refine tkl 9 rfl (yieldsIf_load_mid (by rfl) _ _ rfl _ _ rfl _ _ (λ_ h=>h.2) underlying92 rfl Ha.2) hHeld ?_;refine rd 10 (λK hK=> ?_);go_simp;refine (KI _).mono ?_;rintro e w1 ⟨rfl,b1⟩;go_wp2_with fail;refine hK.out _ _ (HS _ (zad (zaE (Below.refl _ _)) b1)) (λhHeld=> ?_);clear hK K;refine tk 11 hHeld ?_;refine wpAnyH_done oM ?_ _;clear hHeld;refine fin (λW=>Bw wr W) (zad (zaE (Below.refl _ _)) b1) ?_;clear b1 HS KI;rintro W KU;have dT:=kA KU;clear KU;have dZ:=kA (HD.below dT)
        have dX:Hid ((zbc X (p+(j+1)+1)).length=kk/\zbc X (p+(j+1)+1)=C):=kA (by
         rw[show p+(j+1)+1=p+j+1+1 by omega,Ht (by trivial)]
         exact⟨HK.symm,rfl⟩)
        clear HD dT Ht Hr Kx Ky;go_wp2;go_roundw
        case rel=>exact⟨j+1,by have:=Xg.out;go_num,by rw[dX.1],om,by rw[dX.1];omega,by rw[dX.1,dX.2];exact dZ.out⟩
        case measure=>have:=Xg.out;simp[ivl] <;> omega
      ·have ejn:p+j+1=n:=om;have jG:Hid (C=zbc X n):=kA (by rw[Qh.out,ejn]);have a1:¬((j+1:Nat):Int)<((n - p:Nat):Int):=om;have k0:(0:Int)<=(kk:Int):=om;have k1:(kk:Int)<=(n:Int):=om;have k2:(kk:Int)<=(cap:Int):=om;have ncap1:¬cap=kk:=om;have ncap2:¬cap=0:=om;have SF:wr.there g (kk*12) ((n - kk)*12):=by
        obtain⟨cur,hb,hl,_⟩:=HD.1;rw[zK.out]at hl;exact zae hb om
       obtain⟨zs,xM,dE⟩:=zhH wr 0 g (kk*12) (n - kk) (cap - kk) (λj hj=>(SF j hj).1) (λj hj=>(SF j hj).2) om
       have Xn:Hid (DR w 92 g (wr.setCells g (kk*12) zs) C):=kA (by
        have q:=HD.1.tail zaz (zs:=zs) (by rw[xM,length_drop,kJ.out];exact Nat.le_refl _);rw[<-HK.out]at q
        exact⟨q,zaq HD.2 (zbQ _ _ _ _)⟩)
       clear SF xM HD yM;go_wp2;go_ret;exact⟨kk,rfl,by rw[<-jG.out];exact HK.symm,by rw[<-jG.out];exact Xn.out⟩
   ·have HE:Hid (zbc X n=X):=kA (by
     have e:q+1=n:=om
     rw[<-e,HC.out,take_of_length_le (by rw[kJ.out];omega)])
    have YF:¬((q+1:Nat):Int)<(n:Int):=om;go_wp2;go_ret;exact⟨n,rfl,by rw[HE.out];exact kJ.out,by rw[HE.out];exact HD.out⟩
def znz(a b:Rc):Bool:=(a.id==b.id) && (a.ms==b.ms) && (a.pp==b.pp) && (a.mt==b.mt) && (a.cl==b.cl) && (a.ly==b.ly) && ((a.x0==b.x0) && (a.x1==b.x1) && (a.x2==b.x2) && ((a.x3==b.x3) && (a.x4==b.x4) && (a.x5==b.x5)))
theorem znA(a b:Rc):znz a b=true↔a=b:=by
 unfold znz;constructor
 ·intro h;simp only[Bool.and_eq_true,beq_iff_eq]at h;obtain⟨⟨⟨⟨⟨⟨h1,h2⟩,h3⟩,h4⟩,h5⟩,h6⟩,⟨⟨h7,h8⟩,h9⟩,⟨ZC,QX⟩,EX⟩:=h
  cases a;cases b
  simp_all
 ·rintro rfl;simp
theorem zhi(a:Rc):znz a a=true:=(znA a a).2 rfl
theorem zxf{a b:Rc}(h:a≠b):znz a b=false:=by
 cases e:znz a b with
 | false=>rfl
 | true=>exact absurd ((znA a b).1 e) h
theorem zyT(n:Nat)(a b c d e f:Int)(w:World):(Op.equalIn (n+1+1) 48 (.agg #[.int .i64 a,.int .i64 b,.int .i64 c]) (.agg #[.int .i64 d,.int .i64 e,.int .i64 f])).run prog w= .ok ((a==d) && (b==e) && (c==f)) w:=by
 have u3:=underlying44;have a3:=isAgg44;have z3:=sizeOf44;rw[Op.equalIn];simp only[Sem.run_bind,run_underlying underlying48,Result.andThen_ok];simp only[Std.Legacy.Range.forIn_eq_forIn_range',Std.Legacy.Range.size,Nat.sub_zero,Nat.add_sub_cancel,Nat.div_one,range'_succ,range'_zero,forIn_cons,forIn_nil];go_simp
 by_cases h0:a=d
 ·subst h0
  by_cases h1:b=e
  ·subst h1
   by_cases h2:c=f
   ·subst h2;simp
   ·simp[h2]
  ·simp[h1]
 ·simp[h0]
theorem zvB(n:Nat)(a b c d e f a' b' c' d' e' f':Int)(w:World):(Op.equalIn (n+1+1+1) 50 (.agg #[.int .i64 a,.int .i64 b,.int .i64 c,.int .i64 d,.int .i64 e,.int .i64 f]) (.agg #[.int .i64 a',.int .i64 b',.int .i64 c',.int .i64 d',.int .i64 e',.int .i64 f'])).run prog w= .ok ((a==a') && (b==b') && (c==c') && ((d==d') && (e==e') && (f==f'))) w:=by
 have hv:=λx y z x' y' z' w=>zyT n x y z x' y' z' w;obtain⟨p,hp⟩:∃p,p=((a==a') && (b==b') && (c==c')):=⟨_,rfl⟩;obtain⟨q,hq⟩:∃q,q=((d==d') && (e==e') && (f==f')):=⟨_,rfl⟩;have mL:=λw=>hv a b c a' b' c' w;have Qa:=λw=>hv d e f d' e' f' w;rw[<-hp]at mL;rw[<-hq]at Qa;rw[<-hp,<-hq];clear hp hq hv;have a3:=isAgg48;have z3:=sizeOf48;rw[Op.equalIn];simp only[Sem.run_bind,run_underlying underlying50,Result.andThen_ok];go_simp
 cases p <;> cases q <;> simp
theorem zAi(s t:Rc)(w:World):(Op.equalIn 10000 92 (.agg (cRc s).toArray) (.agg (cRc t).toArray)).run prog w= .ok (znz s t) w:=by
 have hM:∀n w,(Op.equalIn (n+1+1+1) 50 (.agg #[.int .i64 s.x0,.int .i64 s.x1,.int .i64 s.x2,.int .i64 s.x3,.int .i64 s.x4,.int .i64 s.x5]) (.agg #[.int .i64 t.x0,.int .i64 t.x1,.int .i64 t.x2,.int .i64 t.x3,.int .i64 t.x4,.int .i64 t.x5])).run prog w= .ok ((s.x0==t.x0) && (s.x1==t.x1) && (s.x2==t.x2) && ((s.x3==t.x3) && (s.x4==t.x4) && (s.x5==t.x5))) w:=λn w=>zvB n _ _ _ _ _ _ _ _ _ _ _ _ w;have a1:=isAgg50;have z1:=sizeOf50;have u5:=underlying4;have a5:=isAgg4;have z5:=sizeOf4;have u6:=underlying81;have a6:=isAgg81;have z6:=sizeOf81;have u7:=underlying3;have a7:=isAgg3;have z7:=sizeOf3;obtain⟨eM,hE⟩:∃e,e=((s.x0==t.x0) && (s.x1==t.x1) && (s.x2==t.x2) && ((s.x3==t.x3) && (s.x4==t.x4) && (s.x5==t.x5))):=⟨_,rfl⟩;unfold znz;rw[<-hE]at hM ⊢;clear hE;unfold cRc;rw[show (10000:Nat)=9996+1+1+1+1 from rfl,Op.equalIn];simp only[Sem.run_bind,run_underlying underlying92,Result.andThen_ok];go_simp
 by_cases e0:s.id=t.id
 ·by_cases e1:s.ms=t.ms
  ·by_cases e2:s.pp=t.pp
   ·by_cases e3:s.mt=t.mt
    ·by_cases e4:s.cl=t.cl
     ·by_cases e5:s.ly=t.ly
      ·cases eM <;> simp[e0,e1,e2,e3,e4,e5]
      ·simp[e0,e1,e2,e3,e4,e5]
     ·simp[e0,e1,e2,e3,e4]
    ·simp[e0,e1,e2,e3]
   ·simp[e0,e1,e2]
  ·simp[e0,e1]
 ·simp[e0]
theorem zAj(s t:Rc)(w:World):(Op.equalIn 10000 128 (.agg (cRc s).toArray) (.agg (cRc t).toArray)).run prog w= .ok (znz s t) w:=by
 have hM:∀n w,(Op.equalIn (n+1+1+1) 50 (.agg #[.int .i64 s.x0,.int .i64 s.x1,.int .i64 s.x2,.int .i64 s.x3,.int .i64 s.x4,.int .i64 s.x5]) (.agg #[.int .i64 t.x0,.int .i64 t.x1,.int .i64 t.x2,.int .i64 t.x3,.int .i64 t.x4,.int .i64 t.x5])).run prog w= .ok ((s.x0==t.x0) && (s.x1==t.x1) && (s.x2==t.x2) && ((s.x3==t.x3) && (s.x4==t.x4) && (s.x5==t.x5))) w:=λn w=>zvB n _ _ _ _ _ _ _ _ _ _ _ _ w;have a1:=isAgg50;have z1:=sizeOf50;have u5:=underlying4;have a5:=isAgg4;have z5:=sizeOf4;have u6:=underlying81;have a6:=isAgg81;have z6:=sizeOf81;have u7:=underlying3;have a7:=isAgg3;have z7:=sizeOf3;obtain⟨eM,hE⟩:∃e,e=((s.x0==t.x0) && (s.x1==t.x1) && (s.x2==t.x2) && ((s.x3==t.x3) && (s.x4==t.x4) && (s.x5==t.x5))):=⟨_,rfl⟩;unfold znz;rw[<-hE]at hM ⊢;clear hE;unfold cRc;rw[show (10000:Nat)=9996+1+1+1+1 from rfl,Op.equalIn];simp only[Sem.run_bind,run_underlying underlying128,Result.andThen_ok];go_simp
 by_cases e0:s.id=t.id
 ·by_cases e1:s.ms=t.ms
  ·by_cases e2:s.pp=t.pp
   ·by_cases e3:s.mt=t.mt
    ·by_cases e4:s.cl=t.cl
     ·by_cases e5:s.ly=t.ly
      ·cases eM <;> simp[e0,e1,e2,e3,e4,e5]
      ·simp[e0,e1,e2,e3,e4,e5]
     ·simp[e0,e1,e2,e3,e4]
    ·simp[e0,e1,e2,e3]
   ·simp[e0,e1,e2]
  ·simp[e0,e1]
 ·simp[e0]
abbrev zbz:=RowX 12 cRc
theorem zxg(W:World):(Instr.buildSlice 85 0 #[]).run prog W= .ok (.slice (some ⟨W.heap.size,0,none⟩) 0 0) (W.alloc (.cells #[] 92)):=oM
theorem zaP{w1 w2:World}{r:Option Nat}(h1:Bw w w1)(h2:w1.grownBy w2 r)(hr:∀b,r=some b->w.heap.size<=b):Bw w w2:=
 ⟨h2.os.trans h1.os,h2.tape.trans h1.tape,h2.output.trans h1.output,Nat.le_trans h1.size h2.size,λq hq=>(h2.block q (Nat.lt_of_lt_of_le hq h1.size) (λe=>by have:=hr q e.symm;omega)).trans (h1.block q hq)⟩
theorem zkv(av:Option Addr)(n cap:Nat)(X:List Rc)(w:World)(row:zbz w av n X)(hn:n<=1000000):
  Calls prog 58 #[.slice av n cap] w λe w'=>∃v,e= .returned v/\OwnX 12 cRc 92 w' w.heap.size v X/\Bw w w':=by
 have HE:Hid (∀w,(binOp .eql 85 (.slice av n cap) (.slice none 0 0)).run prog w= .ok (.bool av.isNone) w):=kA (λw=>Lib.run_eql_slice_nil w _ _ av n cap 0 0 underlying85)
 cases av with
 | none=>
  have h0:n=0:=by
   rcases row.2.2 with h | ⟨b,off,e,_⟩
   ·exact h
   ·cases e
  subst h0;have hX:X=[]:=eq_nil_of_length_eq_zero row.1;subst hX;clear row;have he:=HE.out;go_enter func58,ntmps58;go_wp2;go_ret;exact⟨_,rfl,OwnX.nil _ _ _ _ _,Below.refl _ _⟩
 | some ad=>
  have HR:=kA (row.keep (zaa w (.cells #[] 92)));have HO:Hid (OwnX 12 cRc 92 (w.alloc (.cells #[] 92)) w.heap.size (.slice (some ⟨w.heap.size,0,none⟩) 0 0) ([]:List Rc)):=kA ⟨by simp,.inr ⟨w.heap.size,0,#[],rfl,Nat.le_refl _,Blk.new _ _ _,Nat.le_refl _,zero_le _,by simp,by simp⟩⟩;have kj:=zxg w;have he:=HE.out;clear row;go_enter func58,ntmps58;go_wp2_with (at_builtin;refine zbK rfl (.tmp 5) (.tmp 6) 85 96 (.agg (cRc zRc).toArray) rfl underlying85 zcA rfl (by decide) (by decide) zaz zcM rfl HO (some ad) n cap rfl HR (by simp;omega) (by simp) ?_);intro v' W2 k1 k2 _;have K:Hid (OwnX 12 cRc 92 W2 w.heap.size v' X/\Bw w W2):=kA ⟨k1,zaP (zaa _ _) k2 (λb e=>by simp[Value.ownBlock]at e;omega)⟩;clear k1 k2;go_wp2;go_ret;exact⟨v',rfl,K⟩
theorem OwnX.mr{base:Nat}{v:Value}(h:OwnX 12 cRc t w base v X)(hX:0<X.length):∃g cap,v= .slice (some ⟨g,0,none⟩) X.length cap/\base<=g/\X.length<=cap/\cap<=maxLen/\MR 12 cRc t w g X:=by
 rcases h.2 with ⟨_,h0⟩ | ⟨g,cap,cur,hv,hb,hg,hn,hm,hs,ht⟩
 ·omega
 ·exact⟨g,cap,hv,hb,hn,hm,cur.toList,by unfold Blk;rw[Array.toArray_toList];exact hg,by have e:cur.toList.length=cur.size:=rfl;have q:=mul_le_mul_right 12 hn;omega,ht⟩
theorem MR.row(h:MR 12 cRc t w g X)(hX:X.length<=9223372036854775807):zbz w (some ⟨g,0,none⟩) X.length X:=
 ⟨rfl,hX,.inr ⟨g,0,rfl,h.lt,λi x hi=>by rw[Nat.zero_add];exact h.range zaz hi⟩⟩
theorem zrx(av:Option Addr)(cap:Nat)(fv:Value)(w:World):
  Calls prog 223 #[.slice av 0 cap,fv] w λe w'=>e= .returned (.slice av 0 cap)/\w=w':=by
 go_enter func223,ntmps223;go_wp2;go_ret;exact⟨rfl,rfl⟩
def ze4(X:List Rc):Nat->Rc
 | 0=>(X[0]?).getD zRc
 | k+1=>match X[k+1]? with
  | some x=>if x.id<(ze4 X k).id then x else ze4 X k
  | none=>ze4 X k
theorem zkw(hx:X[k+1]? =some x)(h:x.id<(ze4 X k).id):ze4 X (k+1)=x:=by
 unfold ze4;rw[hx];exact if_pos h
theorem zkx(hx:X[k+1]? =some x)(h:¬x.id<(ze4 X k).id):ze4 X (k+1)=ze4 X k:=by
 show (match X[k+1]? with | some x=>if x.id<(ze4 X k).id then x else ze4 X k | none=>ze4 X k)=_
 rw[hx];exact if_neg h
theorem zb5(a b:Rc):zaM (cRc a) 0 (cRc b)=cRc b:=zan rfl
theorem zxh(av:Option Addr)(n cap:Nat)(X:List Rc)(w:World)(row:zbz w av n X)(hn:n<=1000000)(hpos:0<n):
  Calls prog 265 #[.slice av n cap,.func (.func 222) #[] #[]] w λe w'=>e= .returned (.agg (cRc (ze4 X (n - 1))).toArray)/\Bw w w':=by
 have kJ:=kA row.1;obtain⟨b,off,x0,rfl,hb,Qf,_⟩:=row.at_ hpos
 have HR:Hid (∀W i x,Bw w W->X[i]? =some x->W.rangeAt b (off+i*12) (cRc x)):=kA (λW i x dJ hx=>by
  rcases row.2.2 with h | ⟨b',dV,e,dh,hr⟩
  ·omega
  ·injection e with e;injection e with e1 e2;subst e1 e2
   exact zaF (hr i x hx) (dJ.block b dh))
 have Cn:Hid (ze4 X 0=x0):=kA (by unfold ze4;rw[Qf];rfl);have mM:=kA Qf;have HE:=zkq
 have hE:=HE;unfold zbt at hE;have K0:=kA (Blk.new w 92 (cRc zRc).toArray);have Hb:Hid (Bw w (w.alloc (.cells (cRc zRc).toArray 92))):=kA (zaa _ _);have n1:¬(n:Int)<1:=om;clear row hb Qf HE;go_enter func265,ntmps265;go_upto_region 1 with fail;refine fin (λW=>Blk W w.heap.size 92 (cRc zRc).toArray/\Bw w W) ⟨K0.out,Hb.out⟩ ?_;clear K0 Hb;rintro W0 ⟨k0,Hu⟩;have K0:=kA k0;have Hb:=kA Hu;clear k0 Hu;obtain⟨Z,hZ⟩:∃Z,Z=cRc x0:=⟨_,rfl⟩;have D8:Hid (W0.rangeAt b (off+0*12) Z):=kA (hZ ▸ HR.out W0 0 x0 Hb.out mM.out);have Ha:Hid ((prog.info? 92).map (·.size)=some Z.length):=kA (hZ ▸ zaK x0);have Hn:Hid ((prog.info? 92).map (·.size)=some Z.toArray.size):=kA (by rw[size_toArray];exact Ha.out);have Co:Hid (Z.toArray.all (·.oneCell')=true):=kA (hZ ▸ zbV x0);have KN:=Blk.new W0 92 (cRc zRc).toArray;have kt:Hid ((W0.alloc (.cells (cRc zRc).toArray 92)).there W0.heap.size 0 Z.toArray.size):=kA (zae KN (by rw[size_toArray,hZ];exact Nat.le_refl 12))
 have Dn:Hid (Blk ((W0.alloc (.cells (cRc zRc).toArray 92)).setCells W0.heap.size 0 Z) w.heap.size 92 (cRc zRc).toArray/\Blk ((W0.alloc (.cells (cRc zRc).toArray 92)).setCells W0.heap.size 0 Z) W0.heap.size 92 (cRc (ze4 X 0)).toArray/\Bw w ((W0.alloc (.cells (cRc zRc).toArray 92)).setCells W0.heap.size 0 Z)):=kA (by
  have hlt:=K0.lt;refine⟨zat Z (K0.alloc _) om,?_,zab Z (zag Hb _) om⟩;have:=zaf Z (o:=0) KN (by rw[hZ];exact Nat.le_refl 12);rw[hZ,zb5]at this;rw[Cn.out,hZ]
  exact this)
 have HG:Hid (w.heap.size<W0.heap.size):=kA K0.lt;clear KN hZ;rw[Nat.zero_mul]at D8
 go_upto_region 4 with (first
  | refine wpList_load_mid rfl 92 (.tmp 12) rfl b (off+0) rfl Z _ D8 underlying92 rfl Ha ?_
  | refine wpList_store_mid rfl 92 (.tmp 5) (.tmp 13) rfl W0.heap.size 0 Z.toArray rfl rfl kt Hn Co ?_)
 refine fin (λW=>Blk W w.heap.size 92 (cRc zRc).toArray/\Blk W W0.heap.size 92 (cRc (ze4 X 0)).toArray/\Bw w W) Dn ?_;obtain⟨g5,T8⟩:∃g5,g5=W0.heap.size:=⟨_,rfl⟩;rw[<-T8]at HG ⊢;clear Dn kt D8 Ha Hn Co K0 Hb T8;rintro W1 ⟨k4,k5,Hv⟩;have K4:=kA k4;have K5:=kA k5;have Hg:=kA Hv;clear k4 k5 Hv;go_wp2
 go_loopw [6] (λv6 wr=>∃k:Nat,v6= .int .i64 ((k+1:Nat):Int)/\k+1<=n/\Blk wr w.heap.size 92 (cRc zRc).toArray/\Blk wr g5 92 (cRc (ze4 X k)).toArray/\Bw w wr) (λv6 _=>n - (ivl v6).toNat)
 case atStart=>exact⟨0,rfl,om,K4.out,K5.out,Hg⟩
 case round=>
  clear K4 K5 Hg;obtain⟨k,rfl,hk,k4,k5,Hv⟩:=hrel;have K4:=kA k4;have K5:=kA k5;have Hg:=kA Hv;clear k4 k5 Hv
  by_cases hlt:k+1<n
  ·have CO:=kJ.out;obtain⟨x,hx⟩:∃x,X[k+1]? =some x:=⟨_,getElem?_eq_getElem om⟩;obtain⟨y,hy⟩:∃y,y=ze4 X k:=⟨_,rfl⟩;have xg:Hid (x.id<y.id->ze4 X (k+1)=x):=kA (λh=>zkw hx (by rw[<-hy];exact h));have xh:Hid (¬x.id<y.id->ze4 X (k+1)=y):=kA (λh=>(zkx hx (by rw[<-hy];exact h)).trans hy.symm);rw[<-hy]at K5;have HS:Hid (∀W,Bw wr W->W.rangeAt b (off+(k+1)*12) (cRc x)/\W.rangeAt g5 0 (cRc y)):=kA (λW hb=>⟨HR W (k+1) x (zad Hg hb) hx,zac (K5.keep hb)⟩);have KI:Hid (∀W,Calls prog 222 #[.agg (cRc x).toArray,.agg (cRc y).toArray] W λe w'=>e= .returned (.int .i64 (zf2 x.id y.id))/\Bw W w'):=kA (λW=>zvA x y W);have Ha:Hid (((prog.info? 92).map (·.size)=some (cRc x).length)/\((prog.info? 92).map (·.size)=some (cRc y).length)):=kA ⟨zaK x,zaK y⟩;have cN:Hid (zf2 x.id y.id<0↔x.id<y.id):=kA zlZ;have Xi:Hid (∀W,Bw wr W->Blk W w.heap.size 92 (cRc zRc).toArray/\Blk W g5 92 (cRc y).toArray/\Bw w W):=kA (λW hb=>⟨K4.keep hb,K5.keep hb,zad Hg hb⟩)
   have Hk:Hid (∀W,Bw wr W->W.rangeAt b (off+(k+1)*12) (cRc x)/\W.there g5 0 12/\Blk (W.setCells g5 0 (cRc x)) w.heap.size 92 (cRc zRc).toArray/\Blk (W.setCells g5 0 (cRc x)) g5 92 (cRc x).toArray/\Bw w (W.setCells g5 0 (cRc x))):=kA (λW hb=>by
    obtain⟨q4,q5,q6⟩:=Xi.out W hb;refine⟨(HS W hb).1,zae q5 (Nat.le_refl 12),zat _ q4 (by have:=HG.out;omega),?_,zab _ q6 (by have:=HG.out;omega)⟩;have:=zaf (cRc x) (o:=0) q5 (Nat.le_refl 12);rw[zb5]at this
    exact this)
   obtain⟨XP,dL⟩:∃XP,XP=cRc x:=⟨_,rfl⟩;obtain⟨XQ,DC⟩:∃XQ,XQ=cRc y:=⟨_,rfl⟩;have SG:=kA dL;have mN:=kA DC;have ZT:Hid (XP.toArray.all (·.oneCell')=true/\XP.length=12):=kA (by rw[dL];exact⟨zbV x,rfl⟩);rw[<-dL]at KI Ha HS Hk;rw[<-DC]at KI Ha HS Xi;obtain⟨cc,dR⟩:∃cc,cc=zf2 x.id y.id:=⟨_,rfl⟩;rw[<-dR]at KI cN;obtain⟨p,hp⟩:∃p,p=k+1:=⟨_,rfl⟩;rw[<-hp]at HS Hk xg xh hlt hk ⊢;have p0:(0:Int)<=(p:Int):=om;have p1:(p:Int)<(n:Int):=om;have HP:=kA hp;clear dL DC dR hp hx hy CO;go_wp2_with fail;refine wp_region_held_drew (S:=λw'=>w'.rangeAt b (off+p*12) XP/\w'.rangeAt g5 0 XQ) oM (HS _ (zaE (Below.refl _ _))) (λhHeld=> ?_);refine tk 0 hHeld ?_;refine tk 1 hHeld ?_;refine tk 2 hHeld ?_;refine tk 3 hHeld ?_;refine tkl 4 rfl (yieldsIf_load_mid (by rfl) _ _ rfl _ _ rfl _ _ (λ_ h=>h.1) underlying92 rfl Ha.1) hHeld ?_;refine tkl 5 rfl (yieldsIf_load_mid (by rfl) _ _ rfl _ _ rfl _ _ (λ_ h=>h.2) underlying92 rfl Ha.2) hHeld ?_;refine rd 6 (λK hK=> ?_);go_simp;refine (KI _).mono ?_;rintro e w1 ⟨rfl,b1⟩;go_wp2_with fail;refine hK.out _ _ (HS _ (zad (zaE (Below.refl _ _)) b1)) (λhHeld=> ?_);clear hK K;refine tk 7 hHeld ?_;refine wpAnyH_done oM ?_ _;clear hHeld;refine fin (λW=>Bw wr W) (zad (zaE (Below.refl _ _)) b1) ?_;clear b1 HS KI;rintro W KU;have dT:=kA KU;clear KU
   by_cases hc:cc<0
   ·have Kk:=kA (xg (cN.1 hc));have dC:=kA (Hk W dT);have kt:Hid (W.there g5 0 XP.toArray.size):=kA (by rw[size_toArray,ZT.2];exact dC.2.1);have Hn:Hid ((prog.info? 92).map (·.size)=some XP.toArray.size):=kA (by rw[size_toArray];exact Ha.1);have dX:Hid (Blk (W.setCells g5 0 XP) g5 92 (cRc (ze4 X p)).toArray):=kA (by rw[Kk.out,<-SG.out];exact dC.2.2.2.1);clear Hk Xi xg xh Kk
    go_wp2_with (first
     | refine wpList_load_mid rfl 92 (.tmp 30) rfl b (off+p*12) rfl XP _ dC.1 underlying92 rfl Ha.1 ?_
     | refine wpList_store_mid rfl 92 (.tmp 5) (.tmp 31) rfl g5 0 XP.toArray rfl rfl kt Hn ZT.1 ?_)
    go_roundw
    case rel=>exact⟨p,by go_num,om,dC.2.2.1,dX.out,dC.2.2.2.2⟩
    case measure=>simp[ivl] <;> omega
   ·have Kk:Hid (ze4 X p=y):=kA (xh (by have:=cN.out;omega));have dC:=kA (Xi W dT);have dX:Hid (Blk W g5 92 (cRc (ze4 X p)).toArray):=kA (by rw[Kk.out,<-mN.out];exact dC.2.1);clear Hk Xi xg xh Kk;go_wp2;go_roundw
    case rel=>exact⟨p,by go_num,om,dC.1,dX.out,dC.2.2⟩
    case measure=>simp[ivl] <;> omega
  ·have YF:¬((k+1:Nat):Int)<(n:Int):=om;have ek:k=n - 1:=om;rw[ek]at K5;obtain⟨y,hy⟩:∃y,y=ze4 X (n - 1):=⟨_,rfl⟩;rw[<-hy]at K5;have Kv:Hid (wr.there w.heap.size 0 12):=kA (zae K4 (Nat.le_refl 12));have yJ:=kA (zac K5)
   have T9:Hid (Blk (wr.setCells w.heap.size 0 (cRc y)) w.heap.size 92 (cRc y).toArray/\Bw w (wr.setCells w.heap.size 0 (cRc y))):=kA (by
    have:=zaf (cRc y) (o:=0) K4 (Nat.le_refl 12);rw[zb5]at this
    exact⟨this,zab _ Hg (Nat.le_refl _)⟩)
   have Ha:=kA (zaK y);have zL:=kA (zbV y);obtain⟨XQ,DC⟩:∃XQ,XQ=cRc y:=⟨_,rfl⟩;have SH:Hid (XQ.length=12):=kA (by rw[DC];rfl);have Q6:Hid (XQ=cRc (ze4 X (n - 1))):=kA (by rw[DC,hy]);rw[<-DC]at yJ T9 Ha zL;have Hn:Hid ((prog.info? 92).map (·.size)=some XQ.toArray.size):=kA (by rw[size_toArray];exact Ha);have kt:Hid (wr.there w.heap.size 0 XQ.toArray.size):=kA (by show wr.there w.heap.size 0 XQ.length;rw[SH.out];exact Kv);clear DC hy ek K5 K4 Kv
   go_wp2_with (first
    | refine wpList_load_mid rfl 92 (.tmp 5) rfl g5 0 rfl XQ _ yJ underlying92 rfl Ha ?_
    | refine wpList_store_mid rfl 92 (.tmp 4) (.tmp 32) rfl w.heap.size 0 XQ.toArray rfl rfl kt Hn zL ?_)
   refine fin (λW=>Blk W w.heap.size 92 XQ.toArray/\Bw w W) T9 ?_;rintro W ⟨kr,hbf⟩;have hl:=run_loadVar_mid W w.heap.size 0 92 XQ _ (zac kr) underlying92 rfl Ha
   (try simp only[Act.put,setIfInBounds_toArray])
   exact bodyPost_ret (v:= .agg XQ.toArray) (zaD results265 rfl hl) rfl ⟨by rw[Q6.out],hbf⟩
end Go.Proofs.YtlibdcmcbinfnaaGreat
