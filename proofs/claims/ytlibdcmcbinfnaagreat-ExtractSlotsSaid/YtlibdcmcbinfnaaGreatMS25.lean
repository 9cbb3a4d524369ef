/- Lemmas. -/
import Derived.Test.YtlibdcmcbinfnaaGreatMS24
set_option maxHeartbeats 100000000
set_option maxRecDepth 1000000
namespace Go.Proofs.YtlibdcmcbinfnaaGreat
open _root_.Go.Proofs.Tryz List Nat
open Go.RowKit
variable{k g:Nat}{t:TypeId}{w:World}{X:List Rc}{x y:Rc}
theorem MR.tail{c:Rc->List Value}(hc:∀x,(c x).length=k){t:TypeId}{w:World}{g:Nat}{A B:List Rc}(h:MR k c t w g (A++B)){zs:List Value}(hz:zs.length<=B.length*k):MR k c t (w.setCells g (A.length*k) zs) g A:=by
 obtain⟨cur,hb,hl,ht⟩:=h;rw[length_append,Nat.add_mul]at hl ht;have qu:=zaf zs (o:=A.length*k) hb om;refine⟨_,qu,by rw[zb6 om];omega,?_⟩;have e:cur.take (A.length*k)=A.flatMap c:=by
  have:=congrArg (take (A.length*k)) ht;rw[take_take,Nat.min_eq_left om,flatMap_append]at this;rw[this];rw[<-zgK hc A,take_left]
 unfold zaL;rw[append_assoc,take_append_of_le_length (by rw[length_take];omega),take_take,Nat.min_self];exact e
theorem zns{t:Nat}(hx:X[t+1]? =some x)(hy:X[t]? =some y)(h:(x.id==y.id)=true):zbc X (t+1+1)=zbc X (t+1):=by
 show zbc X (t+1)++_=_;rw[ziY hx hy,h];simp
theorem zrs{t:Nat}(hx:X[t+1]? =some x)(hy:X[t]? =some y)(h:(x.id==y.id)=false):zbc X (t+1+1)=zbc X (t+1)++[x]:=by
 show zbc X (t+1)++_=_;rw[ziY hx hy,h,hx];simp
theorem ztY(hx:X[0]? =some x):zbc X 1=X.take 1:=by
 show []++_=_;rw[zkn hx,hx,take_one,head?_eq_getElem?,hx];simp
theorem ztZ(g n cap:Nat)(X:List Rc)(w:World)(hX:MR 12 cRc 92 w g X)(hn:X.length=n)(Hy:n<=1000000)(hpos:0<n)(hcap:n<=cap)(Kf:cap<=maxLen):
  Calls prog 223 #[.slice (some ⟨g,0,none⟩) n cap,.func (.func 219) #[] #[]] w λe w'=>∃m,e= .returned (.slice (some ⟨g,0,none⟩) m cap)/\(zbc X n).length=m/\DR w 92 g w' (zbc X n):=by
 have H0:Hid (DR w 92 g w X):=kA (DR.start hX);have kG:=kA hn;obtain⟨x0,zY⟩:∃x,X[0]? =some x:=⟨_,getElem?_eq_getElem om⟩;have zZ:=kA (ztY zY);have hE:=zlU;unfold zbs at hE;unfold maxLen at Kf;clear hX hn zY
 by_cases h2:n<2
 ·have HE:Hid (zbc X n=X):=kA (by
   obtain rfl:n=1:=om
   rw[zZ.out,take_of_length_le (by rw[kG.out];exact Nat.le_refl _)])
  have g1:(n:Int)<2:=om;go_enter func223,ntmps223;go_wp2;go_ret;exact⟨n,rfl,by rw[HE.out];exact kG.out,by rw[HE.out];exact H0.out⟩
 ·have g1:¬(n:Int)<2:=om;go_enter func223,ntmps223;go_wp2
  go_loopw [5,6,7] (λv5 _ _ wr=>∃q:Nat,v5= .int .i64 ((q+1:Nat):Int)/\q+1<=n/\DR w 92 g wr X/\zbc X (q+1)=X.take (q+1)) (λv5 _ _ _=>n - (ivl v5).toNat)
  case atStart=>exact⟨0,rfl,om,H0.out,zZ⟩
  case round=>
   clear H0 zZ;obtain⟨q,rfl,hq,hd,hc⟩:=hrel;have HD:=kA hd;have HC:=kA hc;clear hd hc
   by_cases hlt:q+1<n
   ·have Za:=kG.out;obtain⟨x,hx⟩:∃x,X[q+1]? =some x:=⟨_,getElem?_eq_getElem om⟩;obtain⟨y,hy⟩:∃y,X[q]? =some y:=⟨_,getElem?_eq_getElem om⟩;have HS:Hid (∀W,Bw wr W->W.rangeAt g ((q+1)*12) (cRc x)/\W.rangeAt g (q*12) (cRc y)):=kA (λW hb=>⟨ (HD.below hb).1.range zaC hx,(HD.below hb).1.range zaC hy⟩);have Kj:Hid (∀W,Calls prog 219 #[.agg (cRc x).toArray,.agg (cRc y).toArray] W λe w'=>e= .returned (.bool ((x).id==(y).id))/\Bw W w'):=kA (λW=>zdX x y W);have Hb:Hid (((prog.info? 92).map (·.size)=some (cRc x).length)/\((prog.info? 92).map (·.size)=some (cRc y).length)):=kA ⟨zaN x,zaN y⟩;obtain⟨XP,KS⟩:∃XP,XP=cRc x:=⟨_,rfl⟩;obtain⟨XQ,dL⟩:∃XQ,XQ=cRc y:=⟨_,rfl⟩;rw[<-KS,<-dL]at Kj Hb HS;clear KS dL;have Hn:Hid ((x.id==y.id)=true->zbc X (q+1+1)=X.take (q+1)):=kA (λh=>by rw[zns hx hy h,HC.out]);have Hm:Hid ((x.id==y.id)=false->zbc X (q+1+1)=X.take (q+1+1)):=kA (λh=>by rw[zrs hx hy h,HC.out,take_add_one (i:=q+1),hx];rfl);obtain⟨bb,KD⟩:∃bb,bb=(x.id==y.id):=⟨_,rfl⟩;rw[<-KD]at Kj Hn Hm;have Cz:IntKind.i64.wrap (((q+1:Nat):Int) - 1)=(q:Int):=by rw[show ((q+1:Nat):Int) - 1=(q:Int) by omega];exact IntWalk.i64_in _ om
    obtain⟨p,hp⟩:∃p,p=q+1:=⟨_,rfl⟩;rw[<-hp]at Cz HS Hn Hm hlt hq ⊢;have p0:(0:Int)<=(p:Int):=om;have p1:(p:Int)<(n:Int):=om;have q0:(0:Int)<=(q:Int):=om;have q1:(q:Int)<(n:Int):=om;have HP:=kA hp;clear hp hx hy KD Za HC
    cases bb
    ·go_wp2_with fail;refine wp_region_held_drew (S:=λw'=>w'.rangeAt g (p*12) XP/\w'.rangeAt g (q*12) XQ) oM (HS _ (zaH (Below.refl _ _))) (λhHeld=> ?_);refine tk 0 hHeld ?_;refine tk 1 hHeld ?_;refine tk 2 hHeld ?_;refine tk 3 hHeld ?_;refine tkl 4 rfl (yieldsIf_load_mid (by rfl) _ _ rfl _ _ rfl _ _ (λ_ h=>h.1) underlying92 rfl Hb.1) hHeld ?_;refine tk 5 hHeld ?_;refine tk 6 hHeld ?_;refine tk 7 hHeld ?_;refine tk 8 hHeld ?_;refine tkl 9 rfl (yieldsIf_load_mid (by rfl) _ _ rfl _ _ rfl _ _ (λ_ h=>h.2) underlying92 rfl Hb.2) hHeld ?_;refine rd 10 (λK hK=> ?_);go_simp;refine (Kj _).mono ?_;rintro e w1 ⟨rfl,b1⟩;go_wp2_with fail;refine hK.out _ _ (HS _ (zad (zaH (Below.refl _ _)) b1)) (λhHeld=> ?_);clear hK K;refine wpAnyH_done oM ?_ _;clear hHeld;refine fin (λW=>Bw wr W) (zad (zaH (Below.refl _ _)) b1) ?_;clear b1 HS Kj;rintro W Kq;have da:=kA Kq;clear Kq;have dl:=kA (HD.below da);have Kp:=kA (Hm (by trivial));clear HD da Hn Hm;go_wp2;go_roundw
     case rel=>exact⟨p,by go_num,om,dl.out,Kp⟩
     case measure=>simp[ivl] <;> omega
    ·go_wp2_with fail;refine wp_region_held_drew (S:=λw'=>w'.rangeAt g (p*12) XP/\w'.rangeAt g (q*12) XQ) oM (HS _ (zaH (Below.refl _ _))) (λhHeld=> ?_);refine tk 0 hHeld ?_;refine tk 1 hHeld ?_;refine tk 2 hHeld ?_;refine tk 3 hHeld ?_;refine tkl 4 rfl (yieldsIf_load_mid (by rfl) _ _ rfl _ _ rfl _ _ (λ_ h=>h.1) underlying92 rfl Hb.1) hHeld ?_;refine tk 5 hHeld ?_;refine tk 6 hHeld ?_;refine tk 7 hHeld ?_;refine tk 8 hHeld ?_;refine tkl 9 rfl (yieldsIf_load_mid (by rfl) _ _ rfl _ _ rfl _ _ (λ_ h=>h.2) underlying92 rfl Hb.2) hHeld ?_;refine rd 10 (λK hK=> ?_);go_simp;refine (Kj _).mono ?_;rintro e w1 ⟨rfl,b1⟩;go_wp2_with fail;refine hK.out _ _ (HS _ (zad (zaH (Below.refl _ _)) b1)) (λhHeld=> ?_);clear hK K;refine wpAnyH_done oM ?_ _;clear hHeld;refine fin (λW=>Bw wr W) (zad (zaH (Below.refl _ _)) b1) ?_;clear b1 HS Kj;rintro W Kq;have da:=kA Kq;clear Kq;have dl:=kA (HD.below da);have Kp:=kA (Hn (by trivial));clear HD da Hn Hm;have YH:Hid ((zbc X (p+1)).length=p):=kA (by rw[Kp.out,length_take,kG.out];omega);have YI:Hid (DR w 92 g W (zbc X (p+1)++X.drop (zbc X (p+1)).length)):=kA (by rw[YH.out,Kp.out,take_append_drop];exact dl);have ncap:¬cap=p:=om;clear Kp dl;go_wp2
     go_loopw [5,7] (λv5 v7 wr=>∃j:Nat,v7= .int .i64 ((j+1:Nat):Int)/\v5= .int .i64 ((zbc X (p+j+1)).length:Int)/\p+j+1<=n/\(zbc X (p+j+1)).length<p+j+1/\DR w 92 g wr (zbc X (p+j+1)++X.drop (zbc X (p+j+1)).length)) (λ_ v7 _=>n - (ivl v7).toNat)
     case atStart=>exact⟨0,rfl,by rw[Nat.add_zero,YH.out],om,by rw[Nat.add_zero,YH.out];omega,YI⟩
     case round=>
      clear YI YH;obtain⟨j,rfl,rfl,vA,Z5,hd⟩:=hrel;have qs:=ziZ X (p+j+1) (by rw[kG.out];exact vA);have Xm:Hid (∀x y,X[p+j+1]? =some x->X[p+j]? =some y->((x.id==y.id)=true->zbc X (p+j+1+1)=zbc X (p+j+1))/\((x.id==y.id)=false->zbc X (p+j+1+1)=zbc X (p+j+1)++[x])):=kA (λx y hx hy=>⟨zns hx hy,zrs hx hy⟩);obtain⟨C,hC⟩:∃C,C=zbc X (p+j+1):=⟨_,rfl⟩;have Zb:=kA hC;rw[<-hC]at Z5 hd qs Xm ⊢;obtain⟨kk,hk⟩:∃kk,kk=C.length:=⟨_,rfl⟩;rw[<-hk]at Z5 hd qs ⊢;have HK:=kA hk;have HD:=kA hd;clear hC hk hd;have yY:Hid ((C++X.drop kk).length=n):=kA (by rw[length_append,length_drop,<-HK.out,kG.out];omega)
      by_cases Da:p+j+1<n
      ·have Za:=kG.out;obtain⟨x2,YB⟩:∃x,X[p+j+1]? =some x:=⟨_,getElem?_eq_getElem om⟩;obtain⟨y2,Dv⟩:∃y,X[p+j]? =some y:=⟨_,getElem?_eq_getElem om⟩;have zx:(C++X.drop kk)[p+j+1]? =some x2:=by
        rw[getElem?_append_right (by rw[<-HK.out];omega),getElem?_drop,<-HK.out,show kk+(p+j+1 - kk)=p+j+1 by omega];exact YB
       have zy:(C++X.drop kk)[p+j]? =some y2:=by
        rw[getElem?_append_right (by rw[<-HK.out];omega),getElem?_drop,<-HK.out,show kk+(p+j - kk)=p+j by omega];exact Dv
       obtain⟨kR,kH⟩:=Xm.out x2 y2 YB Dv;obtain⟨p2,xu⟩:∃p2,p2=j+1:=⟨_,rfl⟩;have HS:Hid (∀W,Bw wr W->W.rangeAt g (p*12+p2*12) (cRc x2)/\W.rangeAt g (p*12+j*12) (cRc y2)):=kA (λW hb=>⟨(λq=>by rw[show p*12+p2*12=(p+j+1)*12 by omega];exact q) <| (HD.below hb).1.range zaC zx,(λq=>by rw[show p*12+j*12=(p+j)*12 by omega];exact q) <| (HD.below hb).1.range zaC zy⟩);have Kj:Hid (∀W,Calls prog 219 #[.agg (cRc x2).toArray,.agg (cRc y2).toArray] W λe w'=>e= .returned (.bool ((x2).id==(y2).id))/\Bw W w'):=kA (λW=>zdX x2 y2 W);have Hb:Hid (((prog.info? 92).map (·.size)=some (cRc x2).length)/\((prog.info? 92).map (·.size)=some (cRc y2).length)):=kA ⟨zaN x2,zaN y2⟩;obtain⟨XP,KS⟩:∃XP,XP=cRc x2:=⟨_,rfl⟩;obtain⟨XQ,dL⟩:∃XQ,XQ=cRc y2:=⟨_,rfl⟩;rw[<-KS,<-dL]at Kj Hb HS;clear KS dL;have Hn:Hid ((x2.id==y2.id)=true->zbc X (p+j+1+1)=C):=kA kR;have Hm:Hid ((x2.id==y2.id)=false->zbc X (p+j+1+1)=C++[x2]):=kA kH;obtain⟨bb,KD⟩:∃bb,bb=(x2.id==y2.id):=⟨_,rfl⟩;rw[<-KD]at Kj Hn Hm;have xv:IntKind.i64.wrap (((j+1:Nat):Int) - 1)=(j:Int):=by rw[show ((j+1:Nat):Int) - 1=(j:Int) by omega];exact IntWalk.i64_in _ om
       rw[<-xu]at xv ⊢;have a0:(0:Int)<=(p2:Int):=om;have a1:(p2:Int)<((n - p:Nat):Int):=om;have b0:(0:Int)<=(j:Int):=om;have mq:(j:Int)<((n - p:Nat):Int):=om;have XU:=kA xu
       have Kc:Hid (∀W,Bw wr W->W.rangeAt g (p*12+p2*12) (cRc x2)/\W.there g (kk*12) 12/\DR w 92 g (W.setCells g (kk*12) (cRc x2)) ((C++X.drop kk).set kk x2)):=kA (λW hb=>by
        have hD:=HD.below hb;have hl:=yY.out
        refine⟨by rw[show p*12+p2*12=(p+j+1)*12 by omega];exact hD.1.range zaC zx,hD.1.there om,hD.1.set_ zaC om x2,zap hD.2 (zbQ _ _ _ _)⟩)
       have Kd:Hid ((C++X.drop kk).set kk x2=(C++[x2])++X.drop (kk+1)):=kA (by
        have e:X.drop kk=X[kk]'(by omega)::X.drop (kk+1):=drop_eq_getElem_cons om;rw[e];have:=zlS C (X[kk]'(by omega)) x2 (X.drop (kk+1));rw[<-HK.out]at this;rw[this]
        simp)
       clear xu YB Dv zx zy kR kH KD Za Xm
       cases bb
       ·have k0:(0:Int)<=(kk:Int):=om;have k1:(kk:Int)<(n:Int):=om;go_wp2_with fail;refine wp_region_held_drew (S:=λw'=>w'.rangeAt g (p*12+p2*12) XP/\w'.rangeAt g (p*12+j*12) XQ) oM (HS.out _ (zaH (Below.refl _ _))) (λhHeld=> ?_);refine tk 0 hHeld ?_;refine tk 1 hHeld ?_;refine tk 2 hHeld ?_;refine tk 3 hHeld ?_;refine tkl 4 rfl (yieldsIf_load_mid (by rfl) _ _ rfl _ _ rfl _ _ (λ_ h=>h.1) underlying92 rfl Hb.out.1) hHeld ?_;refine tk 5 hHeld ?_;refine tk 6 hHeld ?_;refine tk 7 hHeld ?_;refine tk 8 hHeld ?_;refine tkl 9 rfl (yieldsIf_load_mid (by rfl) _ _ rfl _ _ rfl _ _ (λ_ h=>h.2) underlying92 rfl Hb.out.2) hHeld ?_;refine rd 10 (λK hK=> ?_);go_simp;refine (Kj.out _).mono ?_;rintro e w1 ⟨rfl,b1⟩;go_wp2_with fail;refine hK.out _ _ (HS.out _ (zad (zaH (Below.refl _ _)) b1)) (λhHeld=> ?_);clear hK K;refine tk 11 hHeld ?_;refine wpAnyH_done oM ?_ _;clear hHeld;refine fin (λW=>Bw wr W) (zad (zaH (Below.refl _ _)) b1) ?_;clear b1 HS Kj;rintro W Kq;have da:=kA Kq;clear Kq;have jS:=kA (Kc.out W da.out);have Kp:=kA (Hm.out (by trivial));obtain⟨XZ,CP⟩:∃XZ,XZ=cRc x2:=⟨_,rfl⟩;rw[<-CP]at jS;have xd:Hid (XZ.length=12/\XZ.toArray.all (·.oneCell')=true):=kA (by rw[CP];exact⟨rfl,zb2 _⟩);have D6:Hid ((prog.info? 92).map (·.size)=some XZ.length):=kA (by rw[CP];exact zaN x2);have Dr:Hid ((prog.info? 92).map (·.size)=some XZ.toArray.size):=kA (by rw[size_toArray];exact D6.out);have ki:Hid (W.there g (kk*12) XZ.toArray.size):=kA (by rw[size_toArray,xd.out.1];exact jS.out.2.1);clear HD da Hn Hm Kc CP;have dl:Hid (DR w 92 g (W.setCells g (kk*12) XZ) ((C++[x2])++X.drop (kk+1))):=kA (Kd.out ▸ jS.out.2.2)
        have dR:Hid ((zbc X (p+(j+1)+1)).length=kk+1/\zbc X (p+(j+1)+1)=C++[x2]):=kA (by
         rw[show p+(j+1)+1=p+j+1+1 by omega,Kp.out]
         exact⟨by rw[length_append,<-HK.out];rfl,rfl⟩)
        clear Kd
        go_wp2_with (first
         | refine wpList_load_mid rfl 92 (.tmp 54) rfl g (p*12+p2*12) rfl XZ _ jS.1 underlying92 rfl D6 ?_
         | refine wpList_store_mid rfl 92 (.tmp 56) (.tmp 55) rfl g (kk*12) XZ.toArray rfl rfl ki Dr xd.2 ?_)
        go_roundw
        case rel=>exact⟨j+1,by have:=XU.out;go_num,by rw[dR.1];go_num,om,by rw[dR.1];omega,by rw[dR.1,dR.2];exact dl.out⟩
        case measure=>have:=XU.out;simp[ivl] <;> omega
       ·go_wp2_with fail;refine wp_region_held_drew (S:=λw'=>w'.rangeAt g (p*12+p2*12) XP/\w'.rangeAt g (p*12+j*12) XQ) oM (HS _ (zaH (Below.refl _ _))) (λhHeld=> ?_);refine tk 0 hHeld ?_;refine tk 1 hHeld ?_;refine tk 2 hHeld ?_;refine tk 3 hHeld ?_;refine tkl 4 rfl (yieldsIf_load_mid (by rfl) _ _ rfl _ _ rfl _ _ (λ_ h=>h.1) underlying92 rfl Hb.1) hHeld ?_;refine tk 5 hHeld ?_;refine tk 6 hHeld ?_;refine tk 7 hHeld ?_;refine tk 8 hHeld ?_;refine tkl 9 rfl (yieldsIf_load_mid (by rfl) _ _ rfl _ _ rfl _ _ (λ_ h=>h.2) underlying92 rfl Hb.2) hHeld ?_;refine rd 10 (λK hK=> ?_);go_simp;refine (Kj _).mono ?_;rintro e w1 ⟨rfl,b1⟩;go_wp2_with fail;refine hK.out _ _ (HS _ (zad (zaH (Below.refl _ _)) b1)) (λhHeld=> ?_);clear hK K;refine tk 11 hHeld ?_;refine wpAnyH_done oM ?_ _;clear hHeld;refine fin (λW=>Bw wr W) (zad (zaH (Below.refl _ _)) b1) ?_;clear b1 HS Kj;rintro W Kq;have da:=kA Kq;clear Kq;have dl:=kA (HD.below da)
        have dR:Hid ((zbc X (p+(j+1)+1)).length=kk/\zbc X (p+(j+1)+1)=C):=kA (by
         rw[show p+(j+1)+1=p+j+1+1 by omega,Hn (by trivial)]
         exact⟨HK.symm,rfl⟩)
        clear HD da Hn Hm Kc Kd;go_wp2;go_roundw
        case rel=>exact⟨j+1,by have:=XU.out;go_num,by rw[dR.1],om,by rw[dR.1];omega,by rw[dR.1,dR.2];exact dl.out⟩
        case measure=>have:=XU.out;simp[ivl] <;> omega
      ·have ejn:p+j+1=n:=om;have qt:Hid (C=zbc X n):=kA (by rw[Zb.out,ejn]);have a1:¬((j+1:Nat):Int)<((n - p:Nat):Int):=om;have k0:(0:Int)<=(kk:Int):=om;have k1:(kk:Int)<=(n:Int):=om;have k2:(kk:Int)<=(cap:Int):=om;have ncap1:¬cap=kk:=om;have ncap2:¬cap=0:=om;have vB:wr.there g (kk*12) ((n - kk)*12):=by
        obtain⟨cur,hb,hl,_⟩:=HD.1;rw[yY.out]at hl;exact zae hb om
       obtain⟨zs,ye,dj⟩:=zhC wr 0 g (kk*12) (n - kk) (cap - kk) (λj hj=>(vB j hj).1) (λj hj=>(vB j hj).2) om
       have xe:Hid (DR w 92 g (wr.setCells g (kk*12) zs) C):=kA (by
        have q:=HD.1.tail zaC (zs:=zs) (by rw[ye,length_drop,kG.out];exact Nat.le_refl _);rw[<-HK.out]at q
        exact⟨q,zap HD.2 (zbQ _ _ _ _)⟩)
       clear vB ye HD Xm;go_wp2;go_ret;exact⟨kk,rfl,by rw[<-qt.out];exact HK.symm,by rw[<-qt.out];exact xe.out⟩
   ·have HE:Hid (zbc X n=X):=kA (by
     have e:q+1=n:=om
     rw[<-e,HC.out,take_of_length_le (by rw[kG.out];omega)])
    have yf:¬((q+1:Nat):Int)<(n:Int):=om;go_wp2;go_ret;exact⟨n,rfl,by rw[HE.out];exact kG.out,by rw[HE.out];exact HD.out⟩
def zpl(a b:Rc):Bool:=(a.id==b.id) && (a.ms==b.ms) && (a.pp==b.pp) && (a.mt==b.mt) && (a.cl==b.cl) && (a.ly==b.ly) && ((a.x0==b.x0) && (a.x1==b.x1) && (a.x2==b.x2) && ((a.x3==b.x3) && (a.x4==b.x4) && (a.x5==b.x5)))
theorem znt(a b:Rc):zpl a b=true↔a=b:=by
 unfold zpl;constructor
 ·intro h;simp only[Bool.and_eq_true,beq_iff_eq]at h;obtain⟨⟨⟨⟨⟨⟨h1,h2⟩,h3⟩,h4⟩,h5⟩,h6⟩,⟨⟨h7,h8⟩,h9⟩,⟨ZN,ZO⟩,Nx⟩:=h
  cases a;cases b
  simp_all
 ·rintro rfl;simp
theorem zkp(a:Rc):zpl a a=true:=(znt a a).2 rfl
theorem zw7{a b:Rc}(h:a≠b):zpl a b=false:=by
 cases e:zpl a b with
 | false=>rfl
 | true=>exact absurd ((znt a b).1 e) h
theorem zyM(n:Nat)(a b c d e f:Int)(w:World):(Op.equalIn (n+1+1) 48 (.agg #[.int .i64 a,.int .i64 b,.int .i64 c]) (.agg #[.int .i64 d,.int .i64 e,.int .i64 f])).run prog w= .ok ((a==d) && (b==e) && (c==f)) w:=by
 have u3:=underlying44;have a3:=isAgg44;have z3:=sizeOf44;rw[Op.equalIn];simp only[Sem.run_bind,run_underlying underlying48,Result.andThen_ok];simp only[Std.Legacy.Range.forIn_eq_forIn_range',Std.Legacy.Range.size,Nat.sub_zero,Nat.add_sub_cancel,Nat.div_one,range'_succ,range'_zero,forIn_cons,forIn_nil];go_simp
 by_cases h0:a=d
 ·subst h0
  by_cases h1:b=e
  ·subst h1
   by_cases h2:c=f
   ·subst h2;simp
   ·simp[h2]
  ·simp[h1]
 ·simp[h0]
theorem zyN(n:Nat)(a b c d e f a' b' c' d' e' f':Int)(w:World):(Op.equalIn (n+1+1+1) 50 (.agg #[.int .i64 a,.int .i64 b,.int .i64 c,.int .i64 d,.int .i64 e,.int .i64 f]) (.agg #[.int .i64 a',.int .i64 b',.int .i64 c',.int .i64 d',.int .i64 e',.int .i64 f'])).run prog w= .ok ((a==a') && (b==b') && (c==c') && ((d==d') && (e==e') && (f==f'))) w:=by
 have hv:=λx y z x' y' z' w=>zyM n x y z x' y' z' w;obtain⟨p,hp⟩:∃p,p=((a==a') && (b==b') && (c==c')):=⟨_,rfl⟩;obtain⟨q,hq⟩:∃q,q=((d==d') && (e==e') && (f==f')):=⟨_,rfl⟩;have bC:=λw=>hv a b c a' b' c' w;have bD:=λw=>hv d e f d' e' f' w;rw[<-hp]at bC;rw[<-hq]at bD;rw[<-hp,<-hq];clear hp hq hv;have a3:=isAgg48;have z3:=sizeOf48;rw[Op.equalIn];simp only[Sem.run_bind,run_underlying underlying50,Result.andThen_ok];go_simp
 cases p <;> cases q <;> simp
theorem zAb(s t:Rc)(w:World):(Op.equalIn 10000 92 (.agg (cRc s).toArray) (.agg (cRc t).toArray)).run prog w= .ok (zpl s t) w:=by
 have hM:∀n w,(Op.equalIn (n+1+1+1) 50 (.agg #[.int .i64 s.x0,.int .i64 s.x1,.int .i64 s.x2,.int .i64 s.x3,.int .i64 s.x4,.int .i64 s.x5]) (.agg #[.int .i64 t.x0,.int .i64 t.x1,.int .i64 t.x2,.int .i64 t.x3,.int .i64 t.x4,.int .i64 t.x5])).run prog w= .ok ((s.x0==t.x0) && (s.x1==t.x1) && (s.x2==t.x2) && ((s.x3==t.x3) && (s.x4==t.x4) && (s.x5==t.x5))) w:=λn w=>zyN n _ _ _ _ _ _ _ _ _ _ _ _ w;have a1:=isAgg50;have z1:=sizeOf50;have u5:=underlying4;have a5:=isAgg4;have z5:=sizeOf4;have u6:=underlying81;have a6:=isAgg81;have z6:=sizeOf81;have u7:=underlying3;have a7:=isAgg3;have z7:=sizeOf3;obtain⟨eM,hE⟩:∃e,e=((s.x0==t.x0) && (s.x1==t.x1) && (s.x2==t.x2) && ((s.x3==t.x3) && (s.x4==t.x4) && (s.x5==t.x5))):=⟨_,rfl⟩;unfold zpl;rw[<-hE]at hM ⊢;clear hE;unfold cRc;rw[show (10000:Nat)=9996+1+1+1+1 from rfl,Op.equalIn];simp only[Sem.run_bind,run_underlying underlying92,Result.andThen_ok];go_simp
 by_cases e0:s.id=t.id
 ·by_cases e1:s.ms=t.ms
  ·by_cases e2:s.pp=t.pp
   ·by_cases e3:s.mt=t.mt
    ·by_cases e4:s.cl=t.cl
     ·by_cases e5:s.ly=t.ly
      ·cases eM <;> simp[e0,e1,e2,e3,e4,e5]
      ·simp[e0,e1,e2,e3,e4,e5]
     ·simp[e0,e1,e2,e3,e4]
    ·simp[e0,e1,e2,e3]
   ·simp[e0,e1,e2]
  ·simp[e0,e1]
 ·simp[e0]
abbrev zb4:=RowX 12 cRc
theorem zw8(W:World):(Instr.buildSlice 85 0 #[]).run prog W= .ok (.slice (some ⟨W.heap.size,0,none⟩) 0 0) (W.alloc (.cells #[] 92)):=oM
theorem zaO{w1 w2:World}{r:Option Nat}(h1:Bw w w1)(h2:w1.grownBy w2 r)(hr:∀b,r=some b->w.heap.size<=b):Bw w w2:=
 ⟨h2.os.trans h1.os,h2.tape.trans h1.tape,h2.output.trans h1.output,Nat.le_trans h1.size h2.size,λq hq=>(h2.block q (Nat.lt_of_lt_of_le hq h1.size) (λe=>by have:=hr q e.symm;omega)).trans (h1.block q hq)⟩
theorem zkq(av:Option Addr)(n cap:Nat)(X:List Rc)(w:World)(row:zb4 w av n X)(hn:n<=1000000):
  Calls prog 58 #[.slice av n cap] w λe w'=>∃v,e= .returned v/\OwnX 12 cRc 92 w' w.heap.size v X/\Bw w w':=by
 have HE:Hid (∀w,(binOp .eql 85 (.slice av n cap) (.slice none 0 0)).run prog w= .ok (.bool av.isNone) w):=kA (λw=>Lib.run_eql_slice_nil w _ _ av n cap 0 0 underlying85)
 cases av with
 | none=>
  have h0:n=0:=by
   rcases row.2.2 with h | ⟨b,off,e,_⟩
   ·exact h
   ·cases e
  subst h0;have hX:X=[]:=eq_nil_of_length_eq_zero row.1;subst hX;clear row;have he:=HE.out;go_enter func58,ntmps58;go_wp2;go_ret;exact⟨_,rfl,OwnX.nil _ _ _ _ _,Below.refl _ _⟩
 | some ad=>
  have HR:=kA (row.keep (zaa w (.cells #[] 92)));have HO:Hid (OwnX 12 cRc 92 (w.alloc (.cells #[] 92)) w.heap.size (.slice (some ⟨w.heap.size,0,none⟩) 0 0) ([]:List Rc)):=kA ⟨by simp,.inr ⟨w.heap.size,0,#[],rfl,Nat.le_refl _,Blk.new _ _ _,Nat.le_refl _,zero_le _,by simp,by simp⟩⟩;have H9:=zw8 w;have he:=HE.out;clear row;go_enter func58,ntmps58;go_wp2_with (at_builtin;refine zbK rfl (.tmp 5) (.tmp 6) 85 96 (.agg (cRc zRc).toArray) rfl underlying85 zcA rfl (by decide) (by decide) zaC zcZ rfl HO (some ad) n cap rfl HR (by simp;omega) (by simp) ?_);intro v' W2 k1 k2 _;have K:Hid (OwnX 12 cRc 92 W2 w.heap.size v' X/\Bw w W2):=kA ⟨k1,zaO (zaa _ _) k2 (λb e=>by simp[Value.ownBlock]at e;omega)⟩;clear k1 k2;go_wp2;go_ret;exact⟨v',rfl,K⟩
theorem OwnX.mr{base:Nat}{v:Value}(h:OwnX 12 cRc t w base v X)(hX:0<X.length):∃g cap,v= .slice (some ⟨g,0,none⟩) X.length cap/\base<=g/\X.length<=cap/\cap<=maxLen/\MR 12 cRc t w g X:=by
 rcases h.2 with ⟨_,h0⟩ | ⟨g,cap,cur,hv,hb,hg,hn,hm,hs,ht⟩
 ·omega
 ·exact⟨g,cap,hv,hb,hn,hm,cur.toList,by unfold Blk;rw[Array.toArray_toList];exact hg,by have e:cur.toList.length=cur.size:=rfl;have q:=mul_le_mul_right 12 hn;omega,ht⟩
theorem MR.row(h:MR 12 cRc t w g X)(hX:X.length<=9223372036854775807):zb4 w (some ⟨g,0,none⟩) X.length X:=
 ⟨rfl,hX,.inr ⟨g,0,rfl,h.lt,λi x hi=>by rw[Nat.zero_add];exact h.range zaC hi⟩⟩
theorem zrt(av:Option Addr)(cap:Nat)(fv:Value)(w:World):
  Calls prog 223 #[.slice av 0 cap,fv] w λe w'=>e= .returned (.slice av 0 cap)/\w=w':=by
 go_enter func223,ntmps223;go_wp2;go_ret;exact⟨rfl,rfl⟩
def ze1(X:List Rc):Nat->Rc
 | 0=>(X[0]?).getD zRc
 | k+1=>match X[k+1]? with
  | some x=>if x.id<(ze1 X k).id then x else ze1 X k
  | none=>ze1 X k
theorem zkr(hx:X[k+1]? =some x)(h:x.id<(ze1 X k).id):ze1 X (k+1)=x:=by
 unfold ze1;rw[hx];exact if_pos h
theorem zks(hx:X[k+1]? =some x)(h:¬x.id<(ze1 X k).id):ze1 X (k+1)=ze1 X k:=by
 show (match X[k+1]? with | some x=>if x.id<(ze1 X k).id then x else ze1 X k | none=>ze1 X k)=_
 rw[hx];exact if_neg h
theorem zcj(a b:Rc):zaL (cRc a) 0 (cRc b)=cRc b:=zao rfl
theorem zw9(av:Option Addr)(n cap:Nat)(X:List Rc)(w:World)(row:zb4 w av n X)(hn:n<=1000000)(hpos:0<n):
  Calls prog 265 #[.slice av n cap,.func (.func 222) #[] #[]] w λe w'=>e= .returned (.agg (cRc (ze1 X (n - 1))).toArray)/\Bw w w':=by
 have kG:=kA row.1;obtain⟨b,off,x0,rfl,hb,zY,_⟩:=row.at_ hpos
 have HR:Hid (∀W i x,Bw w W->X[i]? =some x->W.rangeAt b (off+i*12) (cRc x)):=kA (λW i x Cb hx=>by
  rcases row.2.2 with h | ⟨b',cN,e,qu,hr⟩
  ·omega
  ·injection e with e;injection e with e1 e2;subst e1 e2
   exact zaP (hr i x hx) (Cb.block b qu))
 have DC:Hid (ze1 X 0=x0):=kA (by unfold ze1;rw[zY];rfl);have bE:=kA zY;have HE:=zkk
 have hE:=HE;unfold zbs at hE;have K0:=kA (Blk.new w 92 (cRc zRc).toArray);have Ha:Hid (Bw w (w.alloc (.cells (cRc zRc).toArray 92))):=kA (zaa _ _);have n1:¬(n:Int)<1:=om;clear row hb zY HE;go_enter func265,ntmps265;go_upto_region 1 with fail;refine fin (λW=>Blk W w.heap.size 92 (cRc zRc).toArray/\Bw w W) ⟨K0.out,Ha.out⟩ ?_;clear K0 Ha;rintro W0 ⟨k0,Hq⟩;have K0:=kA k0;have Ha:=kA Hq;clear k0 Hq;obtain⟨Z,hZ⟩:∃Z,Z=cRc x0:=⟨_,rfl⟩;have xF:Hid (W0.rangeAt b (off+0*12) Z):=kA (hZ ▸ HR.out W0 0 x0 Ha.out bE.out);have Hb:Hid ((prog.info? 92).map (·.size)=some Z.length):=kA (hZ ▸ zaN x0);have Hh:Hid ((prog.info? 92).map (·.size)=some Z.toArray.size):=kA (by rw[size_toArray];exact Hb.out);have cd:Hid (Z.toArray.all (·.oneCell')=true):=kA (hZ ▸ zb2 x0);have KN:=Blk.new W0 92 (cRc zRc).toArray;have ki:Hid ((W0.alloc (.cells (cRc zRc).toArray 92)).there W0.heap.size 0 Z.toArray.size):=kA (zae KN (by rw[size_toArray,hZ];exact Nat.le_refl 12))
 have dz:Hid (Blk ((W0.alloc (.cells (cRc zRc).toArray 92)).setCells W0.heap.size 0 Z) w.heap.size 92 (cRc zRc).toArray/\Blk ((W0.alloc (.cells (cRc zRc).toArray 92)).setCells W0.heap.size 0 Z) W0.heap.size 92 (cRc (ze1 X 0)).toArray/\Bw w ((W0.alloc (.cells (cRc zRc).toArray 92)).setCells W0.heap.size 0 Z)):=kA (by
  have hlt:=K0.lt;refine⟨zat Z (K0.alloc _) om,?_,zab Z (zag Ha _) om⟩;have:=zaf Z (o:=0) KN (by rw[hZ];exact Nat.le_refl 12);rw[hZ,zcj]at this;rw[DC.out,hZ]
  exact this)
 have HG:Hid (w.heap.size<W0.heap.size):=kA K0.lt;clear KN hZ;rw[Nat.zero_mul]at xF
 go_upto_region 4 with (first
  | refine wpList_load_mid rfl 92 (.tmp 12) rfl b (off+0) rfl Z _ xF underlying92 rfl Hb ?_
  | refine wpList_store_mid rfl 92 (.tmp 5) (.tmp 13) rfl W0.heap.size 0 Z.toArray rfl rfl ki Hh cd ?_)
 refine fin (λW=>Blk W w.heap.size 92 (cRc zRc).toArray/\Blk W W0.heap.size 92 (cRc (ze1 X 0)).toArray/\Bw w W) dz ?_;obtain⟨g5,rh⟩:∃g5,g5=W0.heap.size:=⟨_,rfl⟩;rw[<-rh]at HG ⊢;clear dz ki xF Hb Hh cd K0 Ha rh;rintro W1 ⟨k4,k5,kj⟩;have K4:=kA k4;have K5:=kA k5;have Hk:=kA kj;clear k4 k5 kj;go_wp2
 go_loopw [6] (λv6 wr=>∃k:Nat,v6= .int .i64 ((k+1:Nat):Int)/\k+1<=n/\Blk wr w.heap.size 92 (cRc zRc).toArray/\Blk wr g5 92 (cRc (ze1 X k)).toArray/\Bw w wr) (λv6 _=>n - (ivl v6).toNat)
 case atStart=>exact⟨0,rfl,om,K4.out,K5.out,Hk⟩
 case round=>
  clear K4 K5 Hk;obtain⟨k,rfl,hk,k4,k5,kj⟩:=hrel;have K4:=kA k4;have K5:=kA k5;have Hk:=kA kj;clear k4 k5 kj
  by_cases hlt:k+1<n
  ·have Za:=kG.out;obtain⟨x,hx⟩:∃x,X[k+1]? =some x:=⟨_,getElem?_eq_getElem om⟩;obtain⟨y,hy⟩:∃y,y=ze1 X k:=⟨_,rfl⟩;have Cf:Hid (x.id<y.id->ze1 X (k+1)=x):=kA (λh=>zkr hx (by rw[<-hy];exact h));have Cg:Hid (¬x.id<y.id->ze1 X (k+1)=y):=kA (λh=>(zks hx (by rw[<-hy];exact h)).trans hy.symm);rw[<-hy]at K5;have HS:Hid (∀W,Bw wr W->W.rangeAt b (off+(k+1)*12) (cRc x)/\W.rangeAt g5 0 (cRc y)):=kA (λW hb=>⟨HR W (k+1) x (zad Hk hb) hx,zac (K5.keep hb)⟩);have Kj:Hid (∀W,Calls prog 222 #[.agg (cRc x).toArray,.agg (cRc y).toArray] W λe w'=>e= .returned (.int .i64 (zfZ x.id y.id))/\Bw W w'):=kA (λW=>zvt x y W);have Hb:Hid (((prog.info? 92).map (·.size)=some (cRc x).length)/\((prog.info? 92).map (·.size)=some (cRc y).length)):=kA ⟨zaN x,zaN y⟩;have Dk:Hid (zfZ x.id y.id<0↔x.id<y.id):=kA zlT;have C6:Hid (∀W,Bw wr W->Blk W w.heap.size 92 (cRc zRc).toArray/\Blk W g5 92 (cRc y).toArray/\Bw w W):=kA (λW hb=>⟨K4.keep hb,K5.keep hb,zad Hk hb⟩)
   have Hu:Hid (∀W,Bw wr W->W.rangeAt b (off+(k+1)*12) (cRc x)/\W.there g5 0 12/\Blk (W.setCells g5 0 (cRc x)) w.heap.size 92 (cRc zRc).toArray/\Blk (W.setCells g5 0 (cRc x)) g5 92 (cRc x).toArray/\Bw w (W.setCells g5 0 (cRc x))):=kA (λW hb=>by
    obtain⟨q4,q5,q6⟩:=C6.out W hb;refine⟨(HS W hb).1,zae q5 (Nat.le_refl 12),zat _ q4 (by have:=HG.out;omega),?_,zab _ q6 (by have:=HG.out;omega)⟩;have:=zaf (cRc x) (o:=0) q5 (Nat.le_refl 12);rw[zcj]at this
    exact this)
   obtain⟨XP,KS⟩:∃XP,XP=cRc x:=⟨_,rfl⟩;obtain⟨XQ,dL⟩:∃XQ,XQ=cRc y:=⟨_,rfl⟩;have vC:=kA KS;have bF:=kA dL;have YH:Hid (XP.toArray.all (·.oneCell')=true/\XP.length=12):=kA (by rw[KS];exact⟨zb2 x,rfl⟩);rw[<-KS]at Kj Hb HS Hu;rw[<-dL]at Kj Hb HS C6;obtain⟨cc,KU⟩:∃cc,cc=zfZ x.id y.id:=⟨_,rfl⟩;rw[<-KU]at Kj Dk;obtain⟨p,hp⟩:∃p,p=k+1:=⟨_,rfl⟩;rw[<-hp]at HS Hu Cf Cg hlt hk ⊢;have p0:(0:Int)<=(p:Int):=om;have p1:(p:Int)<(n:Int):=om;have HP:=kA hp;clear KS dL KU hp hx hy Za;go_wp2_with fail;refine wp_region_held_drew (S:=λw'=>w'.rangeAt b (off+p*12) XP/\w'.rangeAt g5 0 XQ) oM (HS _ (zaH (Below.refl _ _))) (λhHeld=> ?_);refine tk 0 hHeld ?_;refine tk 1 hHeld ?_;refine tk 2 hHeld ?_;refine tk 3 hHeld ?_;refine tkl 4 rfl (yieldsIf_load_mid (by rfl) _ _ rfl _ _ rfl _ _ (λ_ h=>h.1) underlying92 rfl Hb.1) hHeld ?_;refine tkl 5 rfl (yieldsIf_load_mid (by rfl) _ _ rfl _ _ rfl _ _ (λ_ h=>h.2) underlying92 rfl Hb.2) hHeld ?_;refine rd 6 (λK hK=> ?_);go_simp;refine (Kj _).mono ?_;rintro e w1 ⟨rfl,b1⟩;go_wp2_with fail;refine hK.out _ _ (HS _ (zad (zaH (Below.refl _ _)) b1)) (λhHeld=> ?_);clear hK K;refine tk 7 hHeld ?_;refine wpAnyH_done oM ?_ _;clear hHeld;refine fin (λW=>Bw wr W) (zad (zaH (Below.refl _ _)) b1) ?_;clear b1 HS Kj;rintro W Kq;have da:=kA Kq;clear Kq
   by_cases hc:cc<0
   ·have Kz:=kA (Cf (Dk.1 hc));have Dr:=kA (Hu W da);have ki:Hid (W.there g5 0 XP.toArray.size):=kA (by rw[size_toArray,YH.2];exact Dr.2.1);have Hh:Hid ((prog.info? 92).map (·.size)=some XP.toArray.size):=kA (by rw[size_toArray];exact Hb.1);have dR:Hid (Blk (W.setCells g5 0 XP) g5 92 (cRc (ze1 X p)).toArray):=kA (by rw[Kz.out,<-vC.out];exact Dr.2.2.2.1);clear Hu C6 Cf Cg Kz
    go_wp2_with (first
     | refine wpList_load_mid rfl 92 (.tmp 30) rfl b (off+p*12) rfl XP _ Dr.1 underlying92 rfl Hb.1 ?_
     | refine wpList_store_mid rfl 92 (.tmp 5) (.tmp 31) rfl g5 0 XP.toArray rfl rfl ki Hh YH.1 ?_)
    go_roundw
    case rel=>exact⟨p,by go_num,om,Dr.2.2.1,dR.out,Dr.2.2.2.2⟩
    case measure=>simp[ivl] <;> omega
   ·have Kz:Hid (ze1 X p=y):=kA (Cg (by have:=Dk.out;omega));have Dr:=kA (C6 W da);have dR:Hid (Blk W g5 92 (cRc (ze1 X p)).toArray):=kA (by rw[Kz.out,<-bF.out];exact Dr.2.1);clear Hu C6 Cf Cg Kz;go_wp2;go_roundw
    case rel=>exact⟨p,by go_num,om,Dr.1,dR.out,Dr.2.2⟩
    case measure=>simp[ivl] <;> omega
  ·have yf:¬((k+1:Nat):Int)<(n:Int):=om;have ek:k=n - 1:=om;rw[ek]at K5;obtain⟨y,hy⟩:∃y,y=ze1 X (n - 1):=⟨_,rfl⟩;rw[<-hy]at K5;have Ka:Hid (wr.there w.heap.size 0 12):=kA (zae K4 (Nat.le_refl 12));have Xi:=kA (zac K5)
   have rj:Hid (Blk (wr.setCells w.heap.size 0 (cRc y)) w.heap.size 92 (cRc y).toArray/\Bw w (wr.setCells w.heap.size 0 (cRc y))):=kA (by
    have:=zaf (cRc y) (o:=0) K4 (Nat.le_refl 12);rw[zcj]at this
    exact⟨this,zab _ Hk (Nat.le_refl _)⟩)
   have Hb:=kA (zaN y);have yZ:=kA (zb2 y);obtain⟨XQ,dL⟩:∃XQ,XQ=cRc y:=⟨_,rfl⟩;have vD:Hid (XQ.length=12):=kA (by rw[dL];rfl);have Z1:Hid (XQ=cRc (ze1 X (n - 1))):=kA (by rw[dL,hy]);rw[<-dL]at Xi rj Hb yZ;have Hh:Hid ((prog.info? 92).map (·.size)=some XQ.toArray.size):=kA (by rw[size_toArray];exact Hb);have ki:Hid (wr.there w.heap.size 0 XQ.toArray.size):=kA (by show wr.there w.heap.size 0 XQ.length;rw[vD.out];exact Ka);clear dL hy ek K5 K4 Ka
   go_wp2_with (first
    | refine wpList_load_mid rfl 92 (.tmp 5) rfl g5 0 rfl XQ _ Xi underlying92 rfl Hb ?_
    | refine wpList_store_mid rfl 92 (.tmp 4) (.tmp 32) rfl w.heap.size 0 XQ.toArray rfl rfl ki Hh yZ ?_)
   refine fin (λW=>Blk W w.heap.size 92 XQ.toArray/\Bw w W) rj ?_;rintro W ⟨kr,hbf⟩;have hl:=run_loadVar_mid W w.heap.size 0 92 XQ _ (zac kr) underlying92 rfl Hb
   (try simp only[Act.put,setIfInBounds_toArray])
   exact bodyPost_ret (v:= .agg XQ.toArray) (zaD results265 rfl hl) rfl ⟨by rw[Z1.out],hbf⟩
end Go.Proofs.YtlibdcmcbinfnaaGreat
