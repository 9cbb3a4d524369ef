/- Lemmas. -/
import Derived.Test.YtlibdcmcbinfnaaGreatMS32
set_option maxHeartbeats 100000000
set_option maxRecDepth 1000000
namespace Go.Proofs.YtlibdcmcbinfnaaGreat
open _root_.Go.Proofs.Tryz List Nat
open Go.RowKit
section
variable {SB:World->Nat->(Nat->Prop)->St->Prop} {FB:World->Nat->(Nat->Prop)->FT->Prop}
theorem zoS(hC:SCx SB)(hF:FCx FB)(w:World)(r:Nat)(hr:r<=256):
  Calls prog 7 #[.int .i64 r] w λe w'=>∃g F,e= .returned (.tuple #[.pointer (some ⟨g,0,none⟩),.int .i64 0])/\LXB SB FB w' g F (Sc0 r)/\(∀b,F b->w.heap.size<=b)/\Bw w w':=by
 have HN:=kA (hC.new w r hr);have DY:=kA hF.new;have HK:=kA (And.intro hC.kb hF.kb);clear hC hF;go_enter func7,ntmps7;go_wp2_with fail;refine HN.mono ?_;rintro e w1 ⟨gs,Fs,rfl,hs,fs,b1⟩;have D6:=kA (And.intro hs (And.intro fs b1));clear hs fs b1 HN;go_wp2_with fail;refine (DY w1).mono ?_;rintro e w2 ⟨gf,Ff,rfl,hf,ff,b2⟩
 have HE:Hid (∃F,LXB SB FB (w2.alloc (.cells #[.pointer (some ⟨gs,0,none⟩),.pointer (some ⟨gf,0,none⟩)] 100)) w2.heap.size F (Sc0 r)/\(∀b,F b->w.heap.size<=b)/\Bw w (w2.alloc (.cells #[.pointer (some ⟨gs,0,none⟩),.pointer (some ⟨gf,0,none⟩)] 100))):=kA (by
  obtain⟨hs,fs,b1⟩:=D6;obtain⟨kS,kF⟩:=HK;have Hf:=zaa w2 (.cells #[.pointer (some ⟨gs,0,none⟩),.pointer (some ⟨gf,0,none⟩)] 100);have Yl:=kS.keep hs b2;have i1:=kS.inb _ _ _ _ hs;have i2:=kF.inb _ _ _ _ hf;refine⟨λb=>b=w2.heap.size∨Fs b∨Ff b,⟨gs,gf,Fs,Ff,Blk.new w2 _ _,⟨kS.keep Yl Hf,kF.keep hf Hf,λb c d=> ?_,λb c=> ?_,λb c=> ?_⟩,λ_=>Iff.rfl⟩,λb c=> ?_,zag (zad b1 b2) _⟩
  ·have:=i1 b c;have:=ff b d;omega
  ·have c':b=w2.heap.size:=c;refine⟨λd=> ?_,λd=> ?_⟩
   ·have:=i1 b d;have:=b2.size;omega
   ·have:=i2 b d;omega
  ·have c':b=w2.heap.size:=c;rw[c'];simp
  ·have z1:=b1.size;have z2:=b2.size;rcases c with c | c | c
   ·omega
   ·exact fs b c
   ·have:=ff b c;omega)
 clear hf ff b2 DY D6 HK;go_wp2;go_ret2;obtain⟨F,k1,k2,k3⟩:=HE;exact⟨_,F,rfl,k1,k2,k3⟩
theorem zoT(hC:SCx SB)(w:World)(x:Int)(hx:x<0∨256<x):
  Calls prog 7 #[.int .i64 x] w λe w'=>e= .returned (.tuple #[.pointer none,.int .i64 1])/\Bw w w':=by
 have HN:=kA (hC.bad w x hx);clear hC hx;go_enter func7,ntmps7;go_wp2_with fail;refine HN.mono ?_;rintro e w1 ⟨rfl,b1⟩;have HB:=kA b1;clear b1 HN;go_wp2;go_ret2;exact⟨rfl,HB⟩
theorem zkI(hC:SCx SB)(hF:FCx FB)(hL:SL SB){w:World}{g:Nat}{F:Nat->Prop}{X:Sc}(h0:LXB SB FB w g F X)(hW:WX X)(hB:BSc X 900)(P:PT)(p:Int)(hp:Rg p):
  Calls prog 28 #[.pointer (some ⟨g,0,none⟩),.agg (pl P).toArray,.int .i64 p] w λe w'=>e= .returned (.tuple #[.int .i64 (znj X P p),.int .i64 (zni X P p)])/\ChB (LXB SB FB) w w' g F (zez X P p):=by
 have kS:=hC.kb;have kF:=hF.kb;have xh:=zkv kS kF;have H0:=kA h0;have Bm:=kA xh;obtain⟨gs,gf,h⟩:=h0.open_;have dC:Hid (∀u,Bw w u->LPS SB FB w u g gs gf F X):=kA (λu q=>h.keep kS kF q);obtain⟨Fs,Kk,_,hS⟩:=h.withS kS kF;obtain⟨pp,Cl⟩:=hL w gs Fs X.S (hS w (Below.refl _ _)).1;have XD:=kA Cl
 have Ks:Hid (∀u,Bw w u->w.heap.size<u.heap.size->Calls prog 62 #[.pointer (some ⟨gs,0,none⟩),.agg (pl P).toArray] u λe w'=>e= .returned (.tuple #[.int .i64 (spV X.S P),.int .i64 (spE X.S P)])/\LPS SB FB w w' g gs gf F ⟨spS X.S P,X.L⟩/\w'.heap[w.heap.size]? =u.heap[w.heap.size]?):=kA (λu q c=>(hC.spawn u gs Fs X.S P hW.ws (hB.bd.mono om) (hS u q).1).mono λe w' k=>⟨k.1,(hS u q).2 _ _ k.2,by
  obtain⟨_,_,f,_⟩:=k.2
  exact f.2.2.2.2 _ c (λz=>by have:=Kk _ z;omega)⟩)
 have yp:X.L.length<=900:=hB.len
 have Kd:Hid (∀u V,LPS SB FB w u g gs gf F ⟨spS X.S P,X.L⟩->Rg V->Calls prog 63 #[.pointer (some ⟨gf,0,none⟩),.int .i64 V,.int .i64 p] u λe w'=>(∃z:Int,e= .returned (.int .i64 z))/\LPS SB FB w w' g gs gf F ⟨spS X.S P,zbD X.L V p⟩):=kA (λu V k hv=>by
  obtain⟨Ff,_,_,Cm⟩:=k.withF kS kF
  exact (hF.set u gf Ff X.L V p hW.wf (show X.L.length<=1000 by omega) (Cm u (Below.refl _ _)).1 hv hp).mono λe w' q=>⟨⟨_,q.1⟩,((Cm u (Below.refl _ _)).2 _ _ q.2).1⟩)
 have dQ:Hid (spE X.S P=0->Rg (spV X.S P)):=kA (λhe=>by
  have h1:zai (spS X.S P) (spV X.S P)=true:=(zfv hW.ws he _).2 (.inr rfl);have h2:=zaU.1 h1;unfold Rg
  omega)
 have Hb:=kA (zaJ P);obtain⟨lv,CV⟩:∃lv,lv=zai X.S p:=⟨_,rfl⟩;obtain⟨V,hV⟩:∃V,V=spV X.S P:=⟨_,rfl⟩;obtain⟨E,hE⟩:∃E,E=spE X.S P:=⟨_,rfl⟩;have Hm:Hid (noP X.S p=true->znj X P p=0/\zni X P p=4/\zez X P p=X):=kA (λc=>by unfold znj zni zez;rw[if_pos c,if_pos c,if_pos c];exact⟨rfl,rfl,rfl⟩);have Hn:Hid (noP X.S p=false->znj X P p=V/\zni X P p=E/\zez X P p=⟨spS X.S P,if E=0/\0<=p then zbD X.L V p else X.L⟩):=kA (λc=>by unfold znj zni zez;rw[c,hV,hE];exact⟨rfl,rfl,rfl⟩)
 have Zn:Hid (E≠0->V=0):=kA (λc=>by rw[hV];unfold spV;rw[if_neg (by rw[<-hE];exact c)]);have Zo:Hid (noP X.S p=(decide (0<=p) && !lv)):=kA (by rw[CV];rfl);have dB:Hid (∀u,Bw w u->Calls prog 61 #[.pointer (some ⟨pp,0,none⟩),.int .i64 p] u λe w'=>e= .returned (.bool lv)/\Bw u w'):=kA (λu q=>by rw[CV];exact (Cl u q).2.2 p);rw[<-hV,<-hE]at Ks dQ;obtain⟨Xp,Hz⟩:∃Xp,Xp=pl P:=⟨_,rfl⟩;rw[<-Hz]at Ks Hb ⊢;have KP:=kA (Blk.new w 52 Xp.toArray);have Hk:Hid (Bw w (w.alloc (.cells Xp.toArray 52))):=kA (zaa _ _);clear Hz hS Kk h0 h hW hB CV hV hE hC hF hL Cl kS kF xh yp hp;go_enter func28,ntmps28
 by_cases hp:0<=p
 ·obtain⟨c0,c1,hg⟩:=(dC _ Hk).reads;obtain⟨d0,dD,-⟩:=XD.out _ Hk;go_wp2_with fail;refine (dB _ Hk).mono ?_;rintro e w1 ⟨rfl,b1⟩;replace KP:=kA (KP.keep b1);replace Hk:=kA (zad Hk b1);clear b1 c0 c1 hg d0 dD
  cases lv with
  | false=>
   have HN:=kA (Hm (by rw[Zo.out,decide_eq_true hp];rfl));have Hu:=kA (ChB.still Bm H0 Hk);clear Hm Hn Zo XD dB Ks Kd dQ;go_wp2;go_ret2;exact⟨by rw[HN.1,HN.2.1];rfl,by rw[HN.2.2];exact Hu.out⟩
  | true=>
   have hno:(decide (0<=p) && !true)=false:=by rw[decide_eq_true hp];rfl
   have HY:=kA (Hn (Zo.trans hno));clear Hn Hm Zo hno XD dB;obtain⟨c0,c1,hg⟩:=(dC _ Hk).reads;have Vj:=Hb.out;go_upto_region 5 with fail;refine fin (λW=>LPS SB FB w W g gs gf F X/\W.rangeAt w.heap.size 0 Xp/\Bw w W/\w.heap.size<W.heap.size) ⟨dC _ Hk,zac KP,Hk.out,KP.lt⟩ ?_;clear c0 c1 hg KP Hk;rintro W0 ⟨xr,r0,Hq,zb⟩;obtain⟨c0,-,hg⟩:=xr.reads;have Hk:=kA Hq;have dV:=kA r0;clear xr Hq;refine wp_region_held_drew (S:=λw'=>w'.cell? ⟨g,0,none⟩=some (.pointer (some ⟨gs,0,none⟩))/\w'.rangeAt w.heap.size 0 Xp) oM (⟨c0,r0⟩) (λhHeld=> ?_);refine tk 0 hHeld ?_;refine tk 1 hHeld ?_;refine tk 2 hHeld ?_;refine tk 3 hHeld ?_;refine tkl 4 rfl (yieldsIf_load_mid (by rfl) _ _ rfl _ _ rfl _ _ (λ_ h=>h.2) underlying52 rfl Hb) hHeld ?_;refine rd 5 (λK hK=> ?_);go_simp
   go_at_call 62
   refine (Ks _ (zad Hk (zbh _)) zb).mono ?_;rintro e w3 ⟨rfl,Dt,cQ⟩;have HP:=kA Dt;have Dh:=kA (zaP dV cQ);clear cQ Dt;go_wp2_with fail;refine hK.out _ _ (⟨HP.reads.1,Dh⟩) (λhHeld=> ?_);clear hK K;refine tk 6 hHeld ?_;refine tk 7 hHeld ?_;refine tk 8 hHeld ?_;refine tk 9 hHeld ?_;refine tk 10 hHeld ?_;refine wpAnyH_done oM ?_ _;clear hHeld;obtain⟨c3,c4,dT⟩:=HP.reads;clear c0 r0 zb hg Ks Hk dV Dh Vj Hb dC c3
   by_cases hE:E=0
   ·have Qg:=kA (dQ hE);subst hE;have HT:=kA (Kd w3 V HP Qg);clear HP Kd dQ Qg Zn;go_wp2_with fail;refine HT.mono ?_;rintro e w4 ⟨⟨z,rfl⟩,hd⟩
    have HD:Hid (ChB (LXB SB FB) w w4 g F (zez X P p)):=kA (by
     rw[HY.2.2,if_pos (by first | exact⟨rfl,hp⟩ | exact⟨trivial,hp⟩)]
     exact hd.done)
    clear hd HT;go_wp2;go_ret2;exact⟨by rw[HY.1,HY.2.1];rfl,HD⟩
   ·have HD:Hid (ChB (LXB SB FB) w w3 g F (zez X P p)):=kA (by
     rw[HY.2.2,if_neg (λq=>hE q.1)]
     exact HP.done)
    have YY:=kA (Zn hE);clear Zn dQ;go_wp2;go_ret2;exact⟨by rw[HY.1,HY.2.1,YY.out];rfl,HD⟩
 ·have hno:(decide (0<=p) && !lv)=false:=by rw[decide_eq_false hp];rfl
  have HY:=kA (Hn (Zo.trans hno));clear Hn Hm Zo hno XD dB;obtain⟨c0,c1,hg⟩:=(dC _ Hk).reads;have Vj:=Hb.out;go_upto_region 5 with fail;refine fin (λW=>LPS SB FB w W g gs gf F X/\W.rangeAt w.heap.size 0 Xp/\Bw w W/\w.heap.size<W.heap.size) ⟨dC _ Hk,zac KP,Hk.out,KP.lt⟩ ?_;clear c0 c1 hg KP Hk;rintro W0 ⟨xr,r0,Hq,zb⟩;obtain⟨c0,-,hg⟩:=xr.reads;have Hk:=kA Hq;have dV:=kA r0;clear xr Hq;refine wp_region_held_drew (S:=λw'=>w'.cell? ⟨g,0,none⟩=some (.pointer (some ⟨gs,0,none⟩))/\w'.rangeAt w.heap.size 0 Xp) oM (⟨c0,r0⟩) (λhHeld=> ?_);refine tk 0 hHeld ?_;refine tk 1 hHeld ?_;refine tk 2 hHeld ?_;refine tk 3 hHeld ?_;refine tkl 4 rfl (yieldsIf_load_mid (by rfl) _ _ rfl _ _ rfl _ _ (λ_ h=>h.2) underlying52 rfl Hb) hHeld ?_;refine rd 5 (λK hK=> ?_);go_simp
  go_at_call 62
  refine (Ks _ (zad Hk (zbh _)) zb).mono ?_;rintro e w3 ⟨rfl,Dt,cQ⟩;have HP:=kA Dt;have Dh:=kA (zaP dV cQ);clear cQ Dt;go_wp2_with fail;refine hK.out _ _ (⟨HP.reads.1,Dh⟩) (λhHeld=> ?_);clear hK K;refine tk 6 hHeld ?_;refine tk 7 hHeld ?_;refine tk 8 hHeld ?_;refine tk 9 hHeld ?_;refine tk 10 hHeld ?_;refine wpAnyH_done oM ?_ _;clear hHeld;obtain⟨c3,c4,dT⟩:=HP.reads;clear c0 r0 zb hg Ks Hk dV Dh Vj Hb dC c3
  have HD:Hid (ChB (LXB SB FB) w w3 g F (zez X P p)):=kA (by
   rw[HY.2.2,if_neg (λq=>by have:=q.2;omega)]
   exact HP.done)
  by_cases hE:E=0
  ·subst hE;clear Zn dQ;go_wp2;go_ret2;exact⟨by rw[HY.1,HY.2.1];rfl,HD⟩
  ·have YY:=kA (Zn hE);clear Zn dQ;go_wp2;go_ret2;exact⟨by rw[HY.1,HY.2.1,YY.out];rfl,HD⟩
theorem zhE(hC:SCx SB)(hF:FCx FB){w:World}{g:Nat}{F:Nat->Prop}{X:Sc}(h0:LXB SB FB w g F X)(hW:WX X)(hB:BSc X 900)(id:Int)(hid:Rg id):
  Calls prog 29 #[.pointer (some ⟨g,0,none⟩),.int .i64 id] w λe w'=>e= .returned (.int .i64 (deE X.S id))/\ChB (LXB SB FB) w w' g F (zfO X id):=by
 have kS:=hC.kb;have kF:=hF.kb;obtain⟨gs,gf,h⟩:=h0.open_;obtain⟨c0,c1,hg⟩:=h.reads;have kt:=kA (zcC c0);obtain⟨Fs,Kk,_,hS⟩:=h.withS kS kF;have Jc:Hid (Calls prog 64 #[.pointer (some ⟨gs,0,none⟩),.int .i64 id] w λe w'=>e= .returned (.int .i64 (deE X.S id))/\LPS SB FB w w' g gs gf F ⟨deS X.S id,X.L⟩):=kA ((hC.despawn w gs Fs X.S id hW.ws (hB.bd.mono om) (hS w (Below.refl _ _)).1).mono λe w' k=>⟨k.1,(hS w (Below.refl _ _)).2 _ _ k.2⟩);have yp:X.L.length<=900:=hB.len;have Kl:Bd (deS X.S id) 1000:=(zys hB.bd id).mono om;have YO:WS (deS X.S id):=zyH hW.ws id;have X8:(chF X.L id).length<=1000:=Nat.le_trans (zen X.L id) om;obtain⟨C,Jd⟩:∃C,C=chF X.L id:=⟨_,rfl⟩;obtain⟨n,hn⟩:∃n,n=C.length:=⟨_,rfl⟩;obtain⟨S1,xL⟩:∃S1,S1=deS X.S id:=⟨_,rfl⟩
 have Cj:Hid (∀u,LPS SB FB w u g gs gf F ⟨S1,X.L⟩->Calls prog 66 #[.pointer (some ⟨gf,0,none⟩),.int .i64 id] u λe w'=>∃a cap Fs,e= .returned (.slice a n cap)/\Row w' a n C/\SB w' gs Fs S1/\Aw Fs a n/\LPS SB FB w w' g gs gf F ⟨S1,zcK X.L id⟩/\∀dN S',Chg SB w' dN gs Fs S'->LPS SB FB w dN g gs gf F ⟨S',zcK X.L id⟩):=kA (λu k=>by
  obtain⟨Ff,_,_,Cm⟩:=k.withF kS kF;refine (hF.drop u gf Ff X.L id hW.wf (show X.L.length<=1000 by omega) (Cm u (Below.refl _ _)).1 hid).mono ?_;rintro e w' ⟨v,rfl,⟨a,cap,hv,Hd,xP⟩,Hg⟩;rw[<-Jd,<-hn]at hv Hd xP;obtain⟨k1,k2⟩:=(Cm u (Below.refl _ _)).2 _ _ Hg;obtain⟨Fs,k3,k4,k5⟩:=k2 a n xP
  exact⟨a,cap,Fs,by rw[hv],Hd,k3,k4,k1,k5⟩)
 have KF:Hid (∀u Fs a cap,SB u gs Fs S1->Row u a n C->Aw Fs a n->Calls prog 65 #[.pointer (some ⟨gs,0,none⟩),.slice a n cap] u λe w'=>(∃z:Int,e= .returned (.int .i64 z))/\Chg SB u w' gs Fs (toS S1 C)):=kA (λu Fs a cap k row Kt=>(hC.touch u gs Fs S1 a n cap C (by rw[xL];exact YO) (by rw[xL];exact Kl) k (by rw[hn,Jd];exact X8) row Kt).mono λe w' q=>⟨⟨_,q.1⟩,q.2⟩);have Hn:Hid (deE X.S id=0->zfO X id=⟨toS S1 C,zcK X.L id⟩):=kA (λc=>by unfold zfO;rw[if_pos c,xL,Jd]);have Hm:Hid (deE X.S id≠0->zfO X id=⟨S1,X.L⟩):=kA (λc=>by unfold zfO;rw[if_neg c,xL,zzV c]);have Y0:=kA (And.intro kS kF);rw[<-xL]at Jc;obtain⟨E,hE⟩:∃E,E=deE X.S id:=⟨_,rfl⟩;rw[<-hE]at Jc Hn Hm ⊢;clear h0 h hW hB hS Kk X8 Jd hn xL hE hC hF Kl YO hid kS kF yp;go_enter func29,ntmps29;go_wp2_with fail;refine kt.mono ?_;rintro e w1 ⟨rfl,rfl⟩;go_wp2_with fail;refine Jc.mono ?_;rintro e w1 ⟨rfl,hp⟩;have HP:=kA hp;clear hp c0 c1 hg Jc kt;obtain⟨c0,c1,hg⟩:=HP.reads
 by_cases hE:E=0
 ·have Bn:=kA (Hn hE);clear Hn Hm;subst hE;have Rp:Hid (LPS SB FB w w1.drew g gs gf F ⟨S1,X.L⟩):=kA (LPS.keep Y0.1 Y0.2 HP (zbh _));go_wp2;refine wp_region_held_drew (S:=λw'=>w'.cell? ⟨g,0,none⟩=some (.pointer (some ⟨gs,0,none⟩))/\w'.cell? ⟨g,1,none⟩=some (.pointer (some ⟨gf,0,none⟩))) oM (⟨c0,c1⟩) (λhHeld=> ?_);refine tk 0 hHeld ?_;refine tk 1 hHeld ?_;refine tk 2 hHeld ?_;refine tk 3 hHeld ?_;refine tk 4 hHeld ?_;refine tk 5 hHeld ?_;refine tk 6 hHeld ?_;refine tk 7 hHeld ?_;refine tk 8 hHeld ?_;refine rd 9 (λK hK=> ?_);go_simp
  go_at_call 66
  refine (Cj _ Rp).mono ?_;rintro e w2 ⟨a,cap,Nb,rfl,row,Yl,Kt,hp,hk⟩;have HT:=kA (KF w2 Nb a cap Yl row Kt);have HK:=kA hk;have H7:=kA hp.reads;clear row Yl Kt hp hk HP Rp Cj KF;go_wp2_with fail;refine hK.out _ _ (⟨H7.1,H7.2.1⟩) (λhHeld=> ?_);clear hK K;refine rd 10 (λK hK=> ?_);go_simp
  go_at_call 65
  refine HT.mono ?_;rintro e w3 ⟨⟨z,rfl⟩,Hg⟩;have xd:=kA (HK _ _ Hg);clear Hg;go_wp2_with fail;refine hK.out _ _ (⟨xd.reads.1,xd.reads.2.1⟩) (λhHeld=> ?_);clear hK K;refine wpAnyH_done oM ?_ _;clear hHeld;have HD:=kA xd.done;clear HK HT xd H7 c0 c1 hg;go_wp2;go_ret;exact⟨rfl,by rw[Bn.out];exact HD.out⟩
 ·have HD:Hid (ChB (LXB SB FB) w w1 g F (zfO X id)):=kA (by rw[Hm.out hE];exact HP.done);clear HP Cj KF Hn Hm;go_wp2;go_ret;exact⟨rfl,HD⟩
theorem zkJ(hC:SCx SB)(hF:FCx FB)(hL:SL SB){w:World}{g:Nat}{F:Nat->Prop}{X:Sc}(h0:LXB SB FB w g F X)(hW:WX X)(hB:BSc X 900)(c p:Int)(Xr:Rg c)(yW:Rg p):
  Calls prog 49 #[.pointer (some ⟨g,0,none⟩),.int .i64 c,.int .i64 p] w λe w'=>e= .returned (.int .i64 (zjs X c p))/\ChB (LXB SB FB) w w' g F (zfX X c p):=by
 have kS:=hC.kb;have kF:=hF.kb;have xh:=zkv kS kF;obtain⟨gs,gf,h⟩:=h0.open_;obtain⟨Fs,Kk,_,hS⟩:=h.withS kS kF;obtain⟨pp,Cl⟩:=hL w gs Fs X.S (hS w (Below.refl _ _)).1
 have dS:Hid (∀u,Bw w u->u.cell? ⟨g,0,none⟩=some (.pointer (some ⟨gs,0,none⟩))/\u.cell? ⟨g,1,none⟩=some (.pointer (some ⟨gf,0,none⟩))/\g<u.heap.size/\u.cell? ⟨gs,0,none⟩=some (.pointer (some ⟨pp,0,none⟩))/\gs<u.heap.size):=kA (λu q=>by
  obtain⟨a1,a2,a3⟩:=(h.keep kS kF q).reads
  exact⟨a1,a2,a3,(Cl u q).1,(Cl u q).2.1⟩)
 have yp:X.L.length<=900:=hB.len;obtain⟨lc,yq⟩:∃b,b=zai X.S c:=⟨_,rfl⟩;obtain⟨lp,Vk⟩:∃b,b=zai X.S p:=⟨_,rfl⟩;have ca:Hid (∀u,Bw w u->Calls prog 61 #[.pointer (some ⟨pp,0,none⟩),.int .i64 c] u λe w'=>e= .returned (.bool lc)/\Bw u w'):=kA (λu q=>by rw[yq];exact (Cl u q).2.2 c);have dY:Hid (∀u,Bw w u->Calls prog 61 #[.pointer (some ⟨pp,0,none⟩),.int .i64 p] u λe w'=>e= .returned (.bool lp)/\Bw u w'):=kA (λu q=>by rw[Vk];exact (Cl u q).2.2 p);have HE:Hid (zjs X c p=if lc && lp then zbq X.L c p else 4):=kA (by rw[yq,Vk];rfl)
 obtain⟨E,hE⟩:∃E,E=zbq X.L c p:=⟨_,rfl⟩
 have Kd:Hid (∀u,Bw w u->Calls prog 63 #[.pointer (some ⟨gf,0,none⟩),.int .i64 c,.int .i64 p] u λe w'=>e= .returned (.int .i64 E)/\LPS SB FB w w' g gs gf F ⟨X.S,zbD X.L c p⟩):=kA (λu q=>by
  obtain⟨Ff,_,_,Cm⟩:=h.withF kS kF
  exact (hF.set u gf Ff X.L c p hW.wf (show X.L.length<=1000 by omega) (Cm u q).1 Xr yW).mono λe w' k=>⟨by rw[k.1,hE],((Cm u q).2 _ _ k.2).1⟩)
 have KF:Hid (∀u L',LPS SB FB w u g gs gf F ⟨X.S,L'⟩->Calls prog 65 #[.pointer (some ⟨gs,0,none⟩),.slice (some ⟨u.heap.size,0,none⟩) 1 1] (u.alloc (.cells #[.int .i64 c] 81)) λe w'=>(∃z:Int,e= .returned (.int .i64 z))/\LPS SB FB w w' g gs gf F ⟨toS X.S [c],L'⟩):=kA (λu L' k=>by
  obtain⟨Fs,Kk,_,hS⟩:=k.withS kS kF;have Hf:=zaa u (.cells #[.int .i64 c] 81)
  exact (hC.touch _ gs Fs X.S (some ⟨u.heap.size,0,none⟩) 1 1 [c] hW.ws (hB.bd.mono om) (hS _ Hf).1 om (znY _ _ _) (zl2 Kk)).mono λe w' q=>⟨⟨_,q.1⟩,(hS _ Hf).2 _ _ q.2⟩)
 have Hu:Hid (∀u,Bw w u->ChB (LXB SB FB) w u g F X):=kA (λu q=>ChB.still xh h0 q);have HX:Hid (zjs X c p=0->zfX X c p=⟨toS X.S [c],zbD X.L c p⟩):=kA (λq=>by unfold zfX;rw[if_pos q]);have Y1:Hid (zjs X c p≠0->zfX X c p=X):=kA (λq=>by unfold zfX;rw[if_neg q]);have dK:Hid (E≠0->zbD X.L c p=X.L):=kA (λq=>by unfold zbD;rw[if_neg (by rw[<-hE];exact q)]);clear h0 h hW hB yq Vk yp hC hF hL kS kF xh hS Kk Cl Xr yW;rw[<-hE]at HE;clear hE;obtain⟨c0,c1,hg,d0,dD⟩:=dS.out w (Below.refl _ _);go_enter func49,ntmps49;go_wp2_with fail;refine (ca _ (Below.refl _ _)).mono ?_;rintro e w1 ⟨rfl,b1⟩;have HB:=kA b1;clear b1 c0 c1 hg d0 dD ca;obtain⟨c0,c1,hg,d0,dD⟩:=dS.out w1 HB
 cases lc with
 | false=>
  have e1:zjs X c p=4:=by rw[HE.out];rfl
  have HD:Hid (ChB (LXB SB FB) w w1 g F (zfX X c p)):=kA (by rw[Y1.out (by rw[e1];decide)];exact Hu w1 HB);have Kz:=kA e1;clear e1 HE HX Y1 dK KF Kd Hu dY dS;go_wp2;go_ret;exact⟨by rw[Kz.out];rfl,HD⟩
 | true=>
  go_wp2_with fail;refine (dY _ HB).mono ?_;rintro e w2 ⟨rfl,b2⟩;replace HB:=kA (zad HB b2);clear b2 c0 c1 hg d0 dD dY;obtain⟨c0,c1,hg,d0,dD⟩:=dS.out w2 HB
  cases lp with
  | false=>
   have e1:zjs X c p=4:=by rw[HE.out];rfl
   have HD:Hid (ChB (LXB SB FB) w w2 g F (zfX X c p)):=kA (by rw[Y1.out (by rw[e1];decide)];exact Hu w2 HB);have Kz:=kA e1;clear e1 HE HX Y1 dK KF Kd Hu dS;go_wp2;go_ret;exact⟨by rw[Kz.out];rfl,HD⟩
  | true=>
   have Kz:Hid (zjs X c p=E):=kA (by rw[HE.out];rfl);clear HE Hu;go_wp2_with fail;refine (Kd _ HB).mono ?_;rintro e w3 ⟨rfl,hp⟩;have HP:=kA hp;clear hp c0 c1 hg d0 dD Kd dS HB;obtain⟨c0,c1,hg⟩:=HP.reads
   by_cases hE:E=0
   ·have kN:=kA (HX (Kz.trans hE));subst hE;have HT:=kA (KF _ _ HP);clear KF HP Y1 dK HX;go_wp2_with fail;refine HT.mono ?_;rintro e w4 ⟨⟨z,rfl⟩,hp⟩;have HD:Hid (ChB (LXB SB FB) w w4 g F (zfX X c p)):=kA (by rw[kN.out];exact hp.done);clear hp HT kN;go_wp2;go_ret;exact⟨by rw[Kz.out];rfl,HD⟩
   ·have HD:Hid (ChB (LXB SB FB) w w3 g F (zfX X c p)):=kA (by
     rw[Y1.out (by rw[Kz.out];exact hE)];have:=HP.done;rw[dK.out hE]at this
     exact this)
    clear KF HP Y1 dK HX;go_wp2;go_ret;exact⟨by rw[Kz.out];rfl,HD⟩
theorem zmb(hC:SCx SB)(hF:FCx FB)(hL:SL SB){w:World}{g:Nat}{F:Nat->Prop}{X:Sc}(h0:LXB SB FB w g F X)(hW:WX X)(hB:BSc X 900)(c:Int)(Xr:Rg c):
  Calls prog 50 #[.pointer (some ⟨g,0,none⟩),.int .i64 c] w λe w'=>e= .returned (.int .i64 (ztM X c))/\ChB (LXB SB FB) w w' g F (zha X c):=by
 have kS:=hC.kb;have kF:=hF.kb;have xh:=zkv kS kF;obtain⟨gs,gf,h⟩:=h0.open_;obtain⟨Fs,Kk,_,hS⟩:=h.withS kS kF;obtain⟨pp,Cl⟩:=hL w gs Fs X.S (hS w (Below.refl _ _)).1
 have dS:Hid (∀u,Bw w u->u.cell? ⟨g,0,none⟩=some (.pointer (some ⟨gs,0,none⟩))/\u.cell? ⟨g,1,none⟩=some (.pointer (some ⟨gf,0,none⟩))/\g<u.heap.size/\u.cell? ⟨gs,0,none⟩=some (.pointer (some ⟨pp,0,none⟩))/\gs<u.heap.size):=kA (λu q=>by
  obtain⟨a1,a2,a3⟩:=(h.keep kS kF q).reads
  exact⟨a1,a2,a3,(Cl u q).1,(Cl u q).2.1⟩)
 have yp:X.L.length<=900:=hB.len;obtain⟨lc,yq⟩:∃b,b=zai X.S c:=⟨_,rfl⟩;have ca:Hid (Calls prog 61 #[.pointer (some ⟨pp,0,none⟩),.int .i64 c] w λe w'=>e= .returned (.bool lc)/\Bw w w'):=kA (by rw[yq];exact (Cl w (Below.refl _ _)).2.2 c);have HE:Hid (ztM X c=if lc then 0 else 4):=kA (by rw[yq];rfl)
 obtain⟨had,Y2⟩:∃b,b=(zak X.L c).isSome:=⟨_,rfl⟩;obtain⟨fn,CY⟩:∃n:Nat,n=frN X.L [c]:=⟨_,rfl⟩;have Rq:fn=if had then 1 else 0:=by
  rw[CY,Y2];show (if (zak X.L c).isSome then 1 else 0)+0=_
  rw[Nat.add_zero]
 have Je:=kA Rq
 have Dn:Hid (∀u,Bw w u->Calls prog 95 #[.pointer (some ⟨gf,0,none⟩),.slice (some ⟨u.heap.size,0,none⟩) 1 1] (u.alloc (.cells #[.int .i64 c] 81)) λe w'=>e= .returned (.int .i64 fn)/\LPS SB FB w w' g gs gf F ⟨X.S,zaG X.L c⟩):=kA (λu q=>by
  obtain⟨Ff,Vl,_,Cm⟩:=(h.keep kS kF q).withF kS kF;have Hf:=zaa u (.cells #[.int .i64 c] 81)
  exact (hF.free _ gf Ff X.L (some ⟨u.heap.size,0,none⟩) 1 1 [c] hW.wf (show X.L.length<=1000 by omega) (Cm _ Hf).1 om (znY _ _ _) (zl2 Vl) (λx hx=>by rw[mem_singleton.1 hx];exact Xr)).mono λe w' k=>⟨by rw[k.1,CY],((Cm _ Hf).2 _ _ k.2).1⟩)
 have KF:Hid (∀u L',LPS SB FB w u g gs gf F ⟨X.S,L'⟩->Calls prog 65 #[.pointer (some ⟨gs,0,none⟩),.slice (some ⟨u.heap.size,0,none⟩) 1 1] (u.alloc (.cells #[.int .i64 c] 81)) λe w'=>(∃z:Int,e= .returned (.int .i64 z))/\LPS SB FB w w' g gs gf F ⟨toS X.S [c],L'⟩):=kA (λu L' k=>by
  obtain⟨Fs,Kk,_,hS⟩:=k.withS kS kF;have Hf:=zaa u (.cells #[.int .i64 c] 81)
  exact (hC.touch _ gs Fs X.S (some ⟨u.heap.size,0,none⟩) 1 1 [c] hW.ws (hB.bd.mono om) (hS _ Hf).1 om (znY _ _ _) (zl2 Kk)).mono λe w' q=>⟨⟨_,q.1⟩,(hS _ Hf).2 _ _ q.2⟩)
 have Hu:Hid (lc=false->∀u,Bw w u->ChB (LXB SB FB) w u g F (zha X c)):=kA (λq u b=>by
  have e:zha X c=X:=by unfold zha;rw[<-yq,q];rfl
  rw[e]
  exact ChB.still xh h0 b)
 have HX:Hid (lc=true->zha X c=⟨if had then toS X.S [c] else X.S,zaG X.L c⟩):=kA (λq=>by unfold zha;rw[<-yq,q,Y2];rfl)
 clear h0 h hW hB yq Y2 yp hC hF hL kS kF xh hS Kk Cl Xr CY Rq;obtain⟨c0,c1,hg,d0,dD⟩:=dS.out w (Below.refl _ _);go_enter func50,ntmps50;go_wp2_with fail;refine ca.mono ?_;rintro e w1 ⟨rfl,b1⟩;have HB:=kA b1;clear b1 c0 c1 hg d0 dD ca;obtain⟨c0,c1,hg,d0,dD⟩:=dS.out w1 HB
 cases lc with
 | false=>
  have HD:=kA (Hu rfl w1 HB);have Kz:Hid (ztM X c=4):=kA (by rw[HE.out];rfl);clear Hu HE HX KF Dn dS;go_wp2;go_ret;exact⟨by rw[Kz.out];rfl,HD⟩
 | true=>
  have Kz:Hid (ztM X c=0):=kA (by rw[HE.out];rfl);have kN:=kA (HX rfl);clear HE Hu HX;go_wp2_with fail;refine (Dn w1 HB).mono ?_;rintro e w2 ⟨rfl,hp⟩;have HP:=kA hp;clear hp c0 c1 hg d0 dD Dn dS HB;obtain⟨c0,c1,hg⟩:=HP.reads
  cases had with
  | false=>
   have e0:fn=0:=Je.out;subst e0;have HD:Hid (ChB (LXB SB FB) w w2 g F (zha X c)):=kA (by rw[kN.out];exact HP.done);clear KF HP kN Je;go_wp2;go_ret;exact⟨by rw[Kz.out];rfl,HD⟩
  | true=>
   have e0:fn=1:=Je.out;subst e0;have HT:=kA (KF _ _ HP);clear KF HP Je;go_wp2_with fail;refine HT.mono ?_;rintro e w3 ⟨⟨z,rfl⟩,hp⟩;have HD:Hid (ChB (LXB SB FB) w w3 g F (zha X c)):=kA (by rw[kN.out];exact hp.done);clear hp HT kN;go_wp2;go_ret;exact⟨by rw[Kz.out];rfl,HD⟩
end
theorem zji(n:Nd):NXs (cNd n) 205:=⟨rfl,oM,oM,all_oneCell_toArray (zlF n)⟩
theorem zux{u0 u2 u3 u4 u5 u7 u8 u9 u10 u11 u12 u13 u14 u15 u16 u17 u18 u19 u20 u21 u22 u23 u24 u25 u26 u27 u28 u29 u30 u31 u32 u33 u34 u35 u36 u37 u38 u39 u40 u41 u42 u43:Value}{Q:Exit->Go.Act->World->Prop}{w:World}{g6:Nat}{id hs:Int}{hb:Bool}{XS X1:List Value}
  (hQ:∀c a d v w,Q (.panic c) (a.put d v) w->Q (.panic c) a w)
  (hS:∀W,Bw w W->W.cell? ⟨g6,0,none⟩=some (.int .i64 hs))
  (h1:∀W,Calls prog 194 #[] W λe w'=>e= .returned (.agg XS.toArray)/\Bw W w')
  (h5:∀W a,Row W a 1 [4]->Calls prog 195 #[.int .i64 hs,.slice a 1 1] W λe w'=>e= .returned (.bool hb)/\W=w')
  (Kl:∀W,(Instr.build 205 #[(0,.int .i64 id),(1,.int .i64 (-1)),(2,.agg XS.toArray),(3,.bool hb)]).run prog W= .ok (.agg X1.toArray) W)
  (cu:NXs X1 205)
  (hk:∀W' a8 a4,Bw w W'->Blk W' a8 205 X1.toArray->w.heap.size<=a8->Q .normal { tmps:= #[u0,.int .i64 id,u2,u3,u4,u5,.pointer (some ⟨g6,0,none⟩),u7,.pointer (some ⟨a8,0,none⟩),u9,u10,u11,u12,u13,u14,u15,u16,u17,u18,u19,.int .i64 id,.agg XS.toArray,.pointer (some ⟨g6,0,none⟩),.int .i64 hs,.slice (some ⟨a4,0,none⟩) 1 1,.bool hb,.agg X1.toArray,u27,u28,u29,u30,u31,u32,u33,u34,u35,u36,u37,u38,u39,u40,u41,u42,u43],defers:=[] } W'):
  (Code.region 4 #[{ dst := some 20, op := Op.move (Operand.tmp 1), type := 81, pos := "scene.go:128", after := #[], guard := none }, { dst := some 21, op := Op.call { callee := Callee.value (Operand.func 194), args := #[], argTypes := #[] }, type := 46, pos := "scene.go:128", after := #[], guard := none }, { dst := some 22, op := Op.fieldAddr 52 (Operand.tmp 6) 0, type := 0, pos := "scene.go:128", after := #[], guard := none }, { dst := some 23, op := Op.load 43 (Operand.tmp 22), type := 43, pos := "scene.go:128", after := #[{ on := 2, ground := Ground.data }], guard := none }, { dst := some 24, op := Op.buildSlice 53 1 #[(0, Operand.const (Value.int IntKind.i64 4))], type := 53, pos := "scene.go:128", after := #[], guard := none }, { dst := some 25, op := Op.call { callee := Callee.value (Operand.func 195), args := #[Operand.tmp 23, Operand.tmp 24], argTypes := #[43, 53] }, type := 4, pos := "scene.go:128", after := #[{ on := 3, ground := Ground.data }, { on := 4, ground := Ground.data }, { on := 1, ground := Ground.chain }], guard := none }, { dst := some 26, op := Op.build 205 #[(0, Operand.tmp 20), (1, Operand.const (Value.int IntKind.i64 (-1))), (2, Operand.tmp 21), (3, Operand.tmp 25)], type := 205, pos := "scene.go:128", after := #[{ on := 0, ground := Ground.data }, { on := 1, ground := Ground.data }, { on := 5, ground := Ground.data }], guard := none }, { dst := some 8, op := Op.alloc 205, type := 0, pos := "scene.go:128", after := #[], guard := none }, { dst := none, op := Op.store 205 (Operand.tmp 8) (Operand.tmp 26), type := 0, pos := "scene.go:128", after := #[{ on := 7, ground := Ground.data }, { on := 6, ground := Ground.data }, { on := 5, ground := Ground.chain }, { on := 0, ground := Ground.phase }, { on := 1, ground := Ground.phase }, { on := 2, ground := Ground.phase }, { on := 3, ground := Ground.phase }, { on := 4, ground := Ground.phase }, { on := 5, ground := Ground.phase }, { on := 6, ground := Ground.phase }, { on := 7, ground := Ground.phase }], guard := none }] true).wp prog Q { tmps := #[u0, .int .i64 id, u2, u3, u4, u5, .pointer (some ⟨g6, 0, none⟩), u7, u8, u9, u10, u11, u12, u13, u14, u15, u16, u17, u18, u19, u20, u21, u22, u23, u24, u25, u26, u27, u28, u29, u30, u31, u32, u33, u34, u35, u36, u37, u38, u39, u40, u41, u42, u43], defers := [] } w := by
 have HK:=kA hk;have HS:=kA hS;have H1:=kA h1;have H5:=kA h5;have Ko:=kA Kl;have kN:=kA cu;clear hk hS h1 h5 Kl cu;refine wp_region_held_drew (S:=λw'=>w'.cell? ⟨g6,0,none⟩=some (.int .i64 hs)) oM (HS _ (zbh _)) (λhHeld=> ?_);refine tk 0 hHeld ?_ (hQ:=λc a w h=>hQ c a _ _ w h);refine tk 2 hHeld ?_ (hQ:=λc a w h=>hQ c a _ _ w h);refine tk 3 hHeld ?_ (hQ:=λc a w h=>hQ c a _ _ w h);refine fin (λW=>Bw w W) (zbh _) ?_;clear hHeld;rintro y0 Hq;have Ha:=kA Hq;clear Hq;have hHeld:=HS.out _ Ha;refine wpAnyH_ready (rs:=[1,4,7]) oM (by simp) ?_;refine AllReadyH.cons rfl (λK hK=> ?_) (AllReadyH.cons rfl (λK hK=> ?_) (AllReadyH.cons rfl (λK hK=> ?_) AllReadyH.nil))
 ·skip
  go_simp
  go_at_call 194
  refine (H1 _).mono ?_;rintro e x0 ⟨rfl,b1⟩;go_wp2_with fail;refine hK.out _ _ (HS _ (zad Ha b1)) (λhHeld=> ?_);clear hK K hHeld;refine fin (λW=>Bw w W) (zad Ha b1) ?_;clear Ha;rintro y1 Hq;have Ha:=kA Hq;clear Hq;have hHeld:=HS.out _ Ha;clear b1;refine wpAnyH_ready (rs:=[4,7]) oM (by simp) ?_;refine AllReadyH.cons rfl (λK hK=> ?_) (AllReadyH.cons rfl (λK hK=> ?_) AllReadyH.nil)
  ·skip
   go_simp;refine hK.out _ _ (HS _ (zag Ha _)) (λhHeld=> ?_);clear hK K hHeld;refine fin (λW=>Bw w W/\Row W (some ⟨y1.heap.size,0,none⟩) 1 [4]) ⟨zag Ha _,znY _ _ _⟩ ?_;clear Ha;obtain⟨a4,Hv⟩:∃n,n=y1.heap.size:=⟨_,rfl⟩;rw[<-Hv];clear Hv;rintro y2 ⟨Hq,r4⟩;have Ha:=kA Hq;have R4:=kA r4;clear Hq r4;have hHeld:=HS.out _ Ha;refine wpAnyH_ready (rs:=[5,7]) oM (by simp) ?_;refine AllReadyH.cons rfl (λK hK=> ?_) (AllReadyH.cons rfl (λK hK=> ?_) AllReadyH.nil)
   ·skip
    go_simp
    go_at_call 195
    refine (H5 _ _ R4).mono ?_;rintro e x2 ⟨rfl,rfl⟩;go_wp2_with fail;refine hK.out _ _ (HS _ Ha) (λhHeld=> ?_);clear hK K;refine wpAnyH_take (i:=6) (v:= .agg X1.toArray) rfl oM oM oM (λc a w h=>hQ c a _ _ w h) (za8 (by rfl) 205 (.tmp 20) (.const (.int .i64 (-1))) (.tmp 21) (.tmp 25) rfl (.int .i64 id) (.int .i64 (-1)) (.agg XS.toArray) (.bool hb) (.agg X1.toArray) rfl rfl rfl rfl Ko) hHeld ?_;simp only[Act.put,getElem_toArray,getElem_cons_zero,getElem_cons_succ,setIfInBounds_toArray,set_cons_zero,set_cons_succ];refine rd 7 (λK hK=> ?_);have h8:w.heap.size<=y2.heap.size:=Ha.size;go_simp;refine hK.out _ _ (HS _ (zag Ha _)) (λhHeld=> ?_);clear hK K hHeld;refine fin (λW=>Bw w W/\Blk W y2.heap.size 205 (cNd n0d).toArray/\Row W (some ⟨a4,0,none⟩) 1 [4]) ⟨zag Ha _,Blk.new _ _ _,zar R4 (zaa _ _)⟩ ?_;clear Ha;clear R4;obtain⟨a8,Hv⟩:∃n,n=y2.heap.size:=⟨_,rfl⟩;rw[<-Hv]at h8 ⊢;clear Hv;rintro y3 ⟨Hq,k8,r4⟩;have Ha:=kA Hq;have K8:=kA k8;have R4:=kA r4;clear Hq k8 r4;have hHeld:=HS.out _ Ha;refine rd 8 (λK hK=> ?_)
    try rw[if_pos (by rfl)]
    refine wp_store_mid 205 (.tmp 8) (.tmp 26) rfl a8 0 X1.toArray rfl rfl (zae K8 (by rw[size_toArray,kN.len];exact Nat.le_refl 15)) kN.sizea kN.onea ?_;have Ke:Hid (Bw w (y3.setCells a8 0 X1)):=kA (zab X1 Ha h8);refine hK.out _ _ (HS _ Ke) (λhHeld=> ?_);clear hK K;refine wpAnyH_done oM ?_ _;clear hHeld;exact HK _ a8 a4 Ke (zal K8 (by rw[kN.len];rfl)) h8
   ·skip
    have h8:w.heap.size<=y2.heap.size:=Ha.size;go_simp;refine hK.out _ _ (HS _ (zag Ha _)) (λhHeld=> ?_);clear hK K hHeld;refine fin (λW=>Bw w W/\Blk W y2.heap.size 205 (cNd n0d).toArray/\Row W (some ⟨a4,0,none⟩) 1 [4]) ⟨zag Ha _,Blk.new _ _ _,zar R4 (zaa _ _)⟩ ?_;clear Ha;clear R4;obtain⟨a8,Hv⟩:∃n,n=y2.heap.size:=⟨_,rfl⟩;rw[<-Hv]at h8 ⊢;clear Hv;rintro y4 ⟨Hq,k8,r4⟩;have Ha:=kA Hq;have K8:=kA k8;have R4:=kA r4;clear Hq k8 r4;have hHeld:=HS.out _ Ha;refine rd 5 (λK hK=> ?_);go_simp
    go_at_call 195
    refine (H5 _ _ R4).mono ?_;rintro e x4 ⟨rfl,rfl⟩;go_wp2_with fail;refine hK.out _ _ (HS _ Ha) (λhHeld=> ?_);clear hK K;refine wpAnyH_take (i:=6) (v:= .agg X1.toArray) rfl oM oM oM (λc a w h=>hQ c a _ _ w h) (za8 (by rfl) 205 (.tmp 20) (.const (.int .i64 (-1))) (.tmp 21) (.tmp 25) rfl (.int .i64 id) (.int .i64 (-1)) (.agg XS.toArray) (.bool hb) (.agg X1.toArray) rfl rfl rfl rfl Ko) hHeld ?_;simp only[Act.put,getElem_toArray,getElem_cons_zero,getElem_cons_succ,setIfInBounds_toArray,set_cons_zero,set_cons_succ];refine rd 8 (λK hK=> ?_)
    try rw[if_pos (by rfl)]
    refine wp_store_mid 205 (.tmp 8) (.tmp 26) rfl a8 0 X1.toArray rfl rfl (zae K8 (by rw[size_toArray,kN.len];exact Nat.le_refl 15)) kN.sizea kN.onea ?_;have Ke:Hid (Bw w (y4.setCells a8 0 X1)):=kA (zab X1 Ha h8);refine hK.out _ _ (HS _ Ke) (λhHeld=> ?_);clear hK K;refine wpAnyH_done oM ?_ _;clear hHeld;exact HK _ a8 a4 Ke (zal K8 (by rw[kN.len];rfl)) h8
  ·skip
   have h8:w.heap.size<=y1.heap.size:=Ha.size;go_simp;refine hK.out _ _ (HS _ (zag Ha _)) (λhHeld=> ?_);clear hK K hHeld;refine fin (λW=>Bw w W/\Blk W y1.heap.size 205 (cNd n0d).toArray) ⟨zag Ha _,Blk.new _ _ _⟩ ?_;clear Ha;obtain⟨a8,Hv⟩:∃n,n=y1.heap.size:=⟨_,rfl⟩;rw[<-Hv]at h8 ⊢;clear Hv;rintro y5 ⟨Hq,k8⟩;have Ha:=kA Hq;have K8:=kA k8;clear Hq k8;have hHeld:=HS.out _ Ha;refine rd 4 (λK hK=> ?_);go_simp;refine hK.out _ _ (HS _ (zag Ha _)) (λhHeld=> ?_);clear hK K hHeld;refine fin (λW=>Bw w W/\Blk W a8 205 (cNd n0d).toArray/\Row W (some ⟨y5.heap.size,0,none⟩) 1 [4]) ⟨zag Ha _,K8.keep (zaa _ _),znY _ _ _⟩ ?_;clear Ha;clear K8;obtain⟨a4,Hv⟩:∃n,n=y5.heap.size:=⟨_,rfl⟩;rw[<-Hv];clear Hv;rintro y6 ⟨Hq,k8,r4⟩;have Ha:=kA Hq;have K8:=kA k8;have R4:=kA r4;clear Hq k8 r4;have hHeld:=HS.out _ Ha;refine rd 5 (λK hK=> ?_);go_simp
   go_at_call 195
   refine (H5 _ _ R4).mono ?_;rintro e x6 ⟨rfl,rfl⟩;go_wp2_with fail;refine hK.out _ _ (HS _ Ha) (λhHeld=> ?_);clear hK K;refine wpAnyH_take (i:=6) (v:= .agg X1.toArray) rfl oM oM oM (λc a w h=>hQ c a _ _ w h) (za8 (by rfl) 205 (.tmp 20) (.const (.int .i64 (-1))) (.tmp 21) (.tmp 25) rfl (.int .i64 id) (.int .i64 (-1)) (.agg XS.toArray) (.bool hb) (.agg X1.toArray) rfl rfl rfl rfl Ko) hHeld ?_;simp only[Act.put,getElem_toArray,getElem_cons_zero,getElem_cons_succ,setIfInBounds_toArray,set_cons_zero,set_cons_succ];refine rd 8 (λK hK=> ?_)
   try rw[if_pos (by rfl)]
   refine wp_store_mid 205 (.tmp 8) (.tmp 26) rfl a8 0 X1.toArray rfl rfl (zae K8 (by rw[size_toArray,kN.len];exact Nat.le_refl 15)) kN.sizea kN.onea ?_;have Ke:Hid (Bw w (y6.setCells a8 0 X1)):=kA (zab X1 Ha h8);refine hK.out _ _ (HS _ Ke) (λhHeld=> ?_);clear hK K;refine wpAnyH_done oM ?_ _;clear hHeld;exact HK _ a8 a4 Ke (zal K8 (by rw[kN.len];rfl)) h8
 ·skip
  go_simp;refine hK.out _ _ (HS _ (zag Ha _)) (λhHeld=> ?_);clear hK K hHeld;refine fin (λW=>Bw w W/\Row W (some ⟨y0.heap.size,0,none⟩) 1 [4]) ⟨zag Ha _,znY _ _ _⟩ ?_;clear Ha;obtain⟨a4,Hv⟩:∃n,n=y0.heap.size:=⟨_,rfl⟩;rw[<-Hv];clear Hv;rintro y7 ⟨Hq,r4⟩;have Ha:=kA Hq;have R4:=kA r4;clear Hq r4;have hHeld:=HS.out _ Ha;refine wpAnyH_ready (rs:=[1,7]) oM (by simp) ?_;refine AllReadyH.cons rfl (λK hK=> ?_) (AllReadyH.cons rfl (λK hK=> ?_) AllReadyH.nil)
  ·skip
   go_simp
   go_at_call 194
   refine (H1 _).mono ?_;rintro e x7 ⟨rfl,b1⟩;go_wp2_with fail;refine hK.out _ _ (HS _ (zad Ha b1)) (λhHeld=> ?_);clear hK K hHeld;refine fin (λW=>Bw w W/\Row W (some ⟨a4,0,none⟩) 1 [4]) ⟨zad Ha b1,zar R4 b1⟩ ?_;clear Ha;clear R4;rintro y8 ⟨Hq,r4⟩;have Ha:=kA Hq;have R4:=kA r4;clear Hq r4;have hHeld:=HS.out _ Ha;clear b1;refine wpAnyH_ready (rs:=[5,7]) oM (by simp) ?_;refine AllReadyH.cons rfl (λK hK=> ?_) (AllReadyH.cons rfl (λK hK=> ?_) AllReadyH.nil)
   ·skip
    go_simp
    go_at_call 195
    refine (H5 _ _ R4).mono ?_;rintro e x8 ⟨rfl,rfl⟩;go_wp2_with fail;refine hK.out _ _ (HS _ Ha) (λhHeld=> ?_);clear hK K;refine wpAnyH_take (i:=6) (v:= .agg X1.toArray) rfl oM oM oM (λc a w h=>hQ c a _ _ w h) (za8 (by rfl) 205 (.tmp 20) (.const (.int .i64 (-1))) (.tmp 21) (.tmp 25) rfl (.int .i64 id) (.int .i64 (-1)) (.agg XS.toArray) (.bool hb) (.agg X1.toArray) rfl rfl rfl rfl Ko) hHeld ?_;simp only[Act.put,getElem_toArray,getElem_cons_zero,getElem_cons_succ,setIfInBounds_toArray,set_cons_zero,set_cons_succ];refine rd 7 (λK hK=> ?_);have h8:w.heap.size<=y8.heap.size:=Ha.size;go_simp;refine hK.out _ _ (HS _ (zag Ha _)) (λhHeld=> ?_);clear hK K hHeld;refine fin (λW=>Bw w W/\Blk W y8.heap.size 205 (cNd n0d).toArray/\Row W (some ⟨a4,0,none⟩) 1 [4]) ⟨zag Ha _,Blk.new _ _ _,zar R4 (zaa _ _)⟩ ?_;clear Ha;clear R4;obtain⟨a8,Hv⟩:∃n,n=y8.heap.size:=⟨_,rfl⟩;rw[<-Hv]at h8 ⊢;clear Hv;rintro y9 ⟨Hq,k8,r4⟩;have Ha:=kA Hq;have K8:=kA k8;have R4:=kA r4;clear Hq k8 r4;have hHeld:=HS.out _ Ha;refine rd 8 (λK hK=> ?_)
    try rw[if_pos (by rfl)]
    refine wp_store_mid 205 (.tmp 8) (.tmp 26) rfl a8 0 X1.toArray rfl rfl (zae K8 (by rw[size_toArray,kN.len];exact Nat.le_refl 15)) kN.sizea kN.onea ?_;have Ke:Hid (Bw w (y9.setCells a8 0 X1)):=kA (zab X1 Ha h8);refine hK.out _ _ (HS _ Ke) (λhHeld=> ?_);clear hK K;refine wpAnyH_done oM ?_ _;clear hHeld;exact HK _ a8 a4 Ke (zal K8 (by rw[kN.len];rfl)) h8
   ·skip
    have h8:w.heap.size<=y8.heap.size:=Ha.size;go_simp;refine hK.out _ _ (HS _ (zag Ha _)) (λhHeld=> ?_);clear hK K hHeld;refine fin (λW=>Bw w W/\Blk W y8.heap.size 205 (cNd n0d).toArray/\Row W (some ⟨a4,0,none⟩) 1 [4]) ⟨zag Ha _,Blk.new _ _ _,zar R4 (zaa _ _)⟩ ?_;clear Ha;clear R4;obtain⟨a8,Hv⟩:∃n,n=y8.heap.size:=⟨_,rfl⟩;rw[<-Hv]at h8 ⊢;clear Hv;rintro ju ⟨Hq,k8,r4⟩;have Ha:=kA Hq;have K8:=kA k8;have R4:=kA r4;clear Hq k8 r4;have hHeld:=HS.out _ Ha;refine rd 5 (λK hK=> ?_);go_simp
    go_at_call 195
    refine (H5 _ _ R4).mono ?_;rintro e Dc ⟨rfl,rfl⟩;go_wp2_with fail;refine hK.out _ _ (HS _ Ha) (λhHeld=> ?_);clear hK K;refine wpAnyH_take (i:=6) (v:= .agg X1.toArray) rfl oM oM oM (λc a w h=>hQ c a _ _ w h) (za8 (by rfl) 205 (.tmp 20) (.const (.int .i64 (-1))) (.tmp 21) (.tmp 25) rfl (.int .i64 id) (.int .i64 (-1)) (.agg XS.toArray) (.bool hb) (.agg X1.toArray) rfl rfl rfl rfl Ko) hHeld ?_;simp only[Act.put,getElem_toArray,getElem_cons_zero,getElem_cons_succ,setIfInBounds_toArray,set_cons_zero,set_cons_succ];refine rd 8 (λK hK=> ?_)
    try rw[if_pos (by rfl)]
    refine wp_store_mid 205 (.tmp 8) (.tmp 26) rfl a8 0 X1.toArray rfl rfl (zae K8 (by rw[size_toArray,kN.len];exact Nat.le_refl 15)) kN.sizea kN.onea ?_;have Ke:Hid (Bw w (ju.setCells a8 0 X1)):=kA (zab X1 Ha h8);refine hK.out _ _ (HS _ Ke) (λhHeld=> ?_);clear hK K;refine wpAnyH_done oM ?_ _;clear hHeld;exact HK _ a8 a4 Ke (zal K8 (by rw[kN.len];rfl)) h8
  ·skip
   have h8:w.heap.size<=y7.heap.size:=Ha.size;go_simp;refine hK.out _ _ (HS _ (zag Ha _)) (λhHeld=> ?_);clear hK K hHeld;refine fin (λW=>Bw w W/\Blk W y7.heap.size 205 (cNd n0d).toArray/\Row W (some ⟨a4,0,none⟩) 1 [4]) ⟨zag Ha _,Blk.new _ _ _,zar R4 (zaa _ _)⟩ ?_;clear Ha;clear R4;obtain⟨a8,Hv⟩:∃n,n=y7.heap.size:=⟨_,rfl⟩;rw[<-Hv]at h8 ⊢;clear Hv;rintro JG ⟨Hq,k8,r4⟩;have Ha:=kA Hq;have K8:=kA k8;have R4:=kA r4;clear Hq k8 r4;have hHeld:=HS.out _ Ha;refine rd 1 (λK hK=> ?_);go_simp
   go_at_call 194
   refine (H1 _).mono ?_;rintro e dZ ⟨rfl,b1⟩;go_wp2_with fail;refine hK.out _ _ (HS _ (zad Ha b1)) (λhHeld=> ?_);clear hK K hHeld;refine fin (λW=>Bw w W/\Blk W a8 205 (cNd n0d).toArray/\Row W (some ⟨a4,0,none⟩) 1 [4]) ⟨zad Ha b1,K8.keep b1,zar R4 b1⟩ ?_;clear Ha;clear K8;clear R4;rintro Nc ⟨Hq,k8,r4⟩;have Ha:=kA Hq;have K8:=kA k8;have R4:=kA r4;clear Hq k8 r4;have hHeld:=HS.out _ Ha;clear b1;refine rd 5 (λK hK=> ?_);go_simp
   go_at_call 195
   refine (H5 _ _ R4).mono ?_;rintro e mI ⟨rfl,rfl⟩;go_wp2_with fail;refine hK.out _ _ (HS _ Ha) (λhHeld=> ?_);clear hK K;refine wpAnyH_take (i:=6) (v:= .agg X1.toArray) rfl oM oM oM (λc a w h=>hQ c a _ _ w h) (za8 (by rfl) 205 (.tmp 20) (.const (.int .i64 (-1))) (.tmp 21) (.tmp 25) rfl (.int .i64 id) (.int .i64 (-1)) (.agg XS.toArray) (.bool hb) (.agg X1.toArray) rfl rfl rfl rfl Ko) hHeld ?_;simp only[Act.put,getElem_toArray,getElem_cons_zero,getElem_cons_succ,setIfInBounds_toArray,set_cons_zero,set_cons_succ];refine rd 8 (λK hK=> ?_)
   try rw[if_pos (by rfl)]
   refine wp_store_mid 205 (.tmp 8) (.tmp 26) rfl a8 0 X1.toArray rfl rfl (zae K8 (by rw[size_toArray,kN.len];exact Nat.le_refl 15)) kN.sizea kN.onea ?_;have Ke:Hid (Bw w (Nc.setCells a8 0 X1)):=kA (zab X1 Ha h8);refine hK.out _ _ (HS _ Ke) (λhHeld=> ?_);clear hK K;refine wpAnyH_done oM ?_ _;clear hHeld;exact HK _ a8 a4 Ke (zal K8 (by rw[kN.len];rfl)) h8
 ·skip
  have h8:w.heap.size<=y0.heap.size:=Ha.size;go_simp;refine hK.out _ _ (HS _ (zag Ha _)) (λhHeld=> ?_);clear hK K hHeld;refine fin (λW=>Bw w W/\Blk W y0.heap.size 205 (cNd n0d).toArray) ⟨zag Ha _,Blk.new _ _ _⟩ ?_;clear Ha;obtain⟨a8,Hv⟩:∃n,n=y0.heap.size:=⟨_,rfl⟩;rw[<-Hv]at h8 ⊢;clear Hv;rintro y13 ⟨Hq,k8⟩;have Ha:=kA Hq;have K8:=kA k8;clear Hq k8;have hHeld:=HS.out _ Ha;refine wpAnyH_ready (rs:=[1,4]) oM (by simp) ?_;refine AllReadyH.cons rfl (λK hK=> ?_) (AllReadyH.cons rfl (λK hK=> ?_) AllReadyH.nil)
  ·skip
   go_simp
   go_at_call 194
   refine (H1 _).mono ?_;rintro e x13 ⟨rfl,b1⟩;go_wp2_with fail;refine hK.out _ _ (HS _ (zad Ha b1)) (λhHeld=> ?_);clear hK K hHeld;refine fin (λW=>Bw w W/\Blk W a8 205 (cNd n0d).toArray) ⟨zad Ha b1,K8.keep b1⟩ ?_;clear Ha;clear K8;rintro TH ⟨Hq,k8⟩;have Ha:=kA Hq;have K8:=kA k8;clear Hq k8;have hHeld:=HS.out _ Ha;clear b1;refine rd 4 (λK hK=> ?_);go_simp;refine hK.out _ _ (HS _ (zag Ha _)) (λhHeld=> ?_);clear hK K hHeld;refine fin (λW=>Bw w W/\Blk W a8 205 (cNd n0d).toArray/\Row W (some ⟨TH.heap.size,0,none⟩) 1 [4]) ⟨zag Ha _,K8.keep (zaa _ _),znY _ _ _⟩ ?_;clear Ha;clear K8;obtain⟨a4,Hv⟩:∃n,n=TH.heap.size:=⟨_,rfl⟩;rw[<-Hv];clear Hv;rintro Nf ⟨Hq,k8,r4⟩;have Ha:=kA Hq;have K8:=kA k8;have R4:=kA r4;clear Hq k8 r4;have hHeld:=HS.out _ Ha;refine rd 5 (λK hK=> ?_);go_simp
   go_at_call 195
   refine (H5 _ _ R4).mono ?_;rintro e mJ ⟨rfl,rfl⟩;go_wp2_with fail;refine hK.out _ _ (HS _ Ha) (λhHeld=> ?_);clear hK K;refine wpAnyH_take (i:=6) (v:= .agg X1.toArray) rfl oM oM oM (λc a w h=>hQ c a _ _ w h) (za8 (by rfl) 205 (.tmp 20) (.const (.int .i64 (-1))) (.tmp 21) (.tmp 25) rfl (.int .i64 id) (.int .i64 (-1)) (.agg XS.toArray) (.bool hb) (.agg X1.toArray) rfl rfl rfl rfl Ko) hHeld ?_;simp only[Act.put,getElem_toArray,getElem_cons_zero,getElem_cons_succ,setIfInBounds_toArray,set_cons_zero,set_cons_succ];refine rd 8 (λK hK=> ?_)
   try rw[if_pos (by rfl)]
   refine wp_store_mid 205 (.tmp 8) (.tmp 26) rfl a8 0 X1.toArray rfl rfl (zae K8 (by rw[size_toArray,kN.len];exact Nat.le_refl 15)) kN.sizea kN.onea ?_;have Ke:Hid (Bw w (Nf.setCells a8 0 X1)):=kA (zab X1 Ha h8);refine hK.out _ _ (HS _ Ke) (λhHeld=> ?_);clear hK K;refine wpAnyH_done oM ?_ _;clear hHeld;exact HK _ a8 a4 Ke (zal K8 (by rw[kN.len];rfl)) h8
  ·skip
   go_simp;refine hK.out _ _ (HS _ (zag Ha _)) (λhHeld=> ?_);clear hK K hHeld;refine fin (λW=>Bw w W/\Blk W a8 205 (cNd n0d).toArray/\Row W (some ⟨y13.heap.size,0,none⟩) 1 [4]) ⟨zag Ha _,K8.keep (zaa _ _),znY _ _ _⟩ ?_;clear Ha;clear K8;obtain⟨a4,Hv⟩:∃n,n=y13.heap.size:=⟨_,rfl⟩;rw[<-Hv];clear Hv;rintro mK ⟨Hq,k8,r4⟩;have Ha:=kA Hq;have K8:=kA k8;have R4:=kA r4;clear Hq k8 r4;have hHeld:=HS.out _ Ha;refine rd 1 (λK hK=> ?_);go_simp
   go_at_call 194
   refine (H1 _).mono ?_;rintro e mL ⟨rfl,b1⟩;go_wp2_with fail;refine hK.out _ _ (HS _ (zad Ha b1)) (λhHeld=> ?_);clear hK K hHeld;refine fin (λW=>Bw w W/\Blk W a8 205 (cNd n0d).toArray/\Row W (some ⟨a4,0,none⟩) 1 [4]) ⟨zad Ha b1,K8.keep b1,zar R4 b1⟩ ?_;clear Ha;clear K8;clear R4;rintro Ng ⟨Hq,k8,r4⟩;have Ha:=kA Hq;have K8:=kA k8;have R4:=kA r4;clear Hq k8 r4;have hHeld:=HS.out _ Ha;clear b1;refine rd 5 (λK hK=> ?_);go_simp
   go_at_call 195
   refine (H5 _ _ R4).mono ?_;rintro e mM ⟨rfl,rfl⟩;go_wp2_with fail;refine hK.out _ _ (HS _ Ha) (λhHeld=> ?_);clear hK K;refine wpAnyH_take (i:=6) (v:= .agg X1.toArray) rfl oM oM oM (λc a w h=>hQ c a _ _ w h) (za8 (by rfl) 205 (.tmp 20) (.const (.int .i64 (-1))) (.tmp 21) (.tmp 25) rfl (.int .i64 id) (.int .i64 (-1)) (.agg XS.toArray) (.bool hb) (.agg X1.toArray) rfl rfl rfl rfl Ko) hHeld ?_;simp only[Act.put,getElem_toArray,getElem_cons_zero,getElem_cons_succ,setIfInBounds_toArray,set_cons_zero,set_cons_succ];refine rd 8 (λK hK=> ?_)
   try rw[if_pos (by rfl)]
   refine wp_store_mid 205 (.tmp 8) (.tmp 26) rfl a8 0 X1.toArray rfl rfl (zae K8 (by rw[size_toArray,kN.len];exact Nat.le_refl 15)) kN.sizea kN.onea ?_;have Ke:Hid (Bw w (Ng.setCells a8 0 X1)):=kA (zab X1 Ha h8);refine hK.out _ _ (HS _ Ke) (λhHeld=> ?_);clear hK K;refine wpAnyH_done oM ?_ _;clear hHeld;exact HK _ a8 a4 Ke (zal K8 (by rw[kN.len];rfl)) h8
section
variable {SB:World->Nat->(Nat->Prop)->St->Prop} {FB:World->Nat->(Nat->Prop)->FT->Prop}
theorem zoU(hC:SCx SB)(hF:FCx FB){w:World}{g:Nat}{F:Nat->Prop}{X:Sc}(h0:LXB SB FB w g F X)(hW:WX X)(hB:BSc X 900):
  Calls prog 44 #[.pointer (some ⟨g,0,none⟩)] w λe w'=>∃v,e= .returned v/\LRes w w' (alS X.S) v/\Bw w w':=by
 have kS:=hC.kb;have kF:=hF.kb;obtain⟨gs,gf,h⟩:=h0.open_;obtain⟨c0,c1,hg⟩:=h.reads;have kt:=kA (zcC c0);obtain⟨Fs,Kk,_,hS⟩:=h.withS kS kF;have Ku:=kA (hC.all w gs Fs X.S hW.ws (hB.bd.mono om) (hS w (Below.refl _ _)).1);obtain⟨L,hL⟩:∃L,L=alS X.S:=⟨_,rfl⟩;rw[<-hL]at Ku ⊢;clear hL h0 hW hB hC hF kS kF h Kk hS;go_enter func44,ntmps44;go_wp2_with fail;refine kt.mono ?_;rintro e w1 ⟨rfl,rfl⟩;go_wp2_with fail;refine Ku.mono ?_;rintro e w1 ⟨v,rfl,⟨a,cap,rfl,lr,ln⟩,b1⟩;have HR:Hid (LRes w w1 L (.slice a L.length cap)/\Bw w w1):=kA ⟨⟨a,cap,rfl,lr,ln⟩,b1⟩;clear lr ln b1 Ku kt c0 c1 hg;go_wp2;go_ret;exact⟨_,rfl,HR.1,HR.2⟩
theorem zhF(hC:SCx SB)(hF:FCx FB){w:World}{g:Nat}{F:Nat->Prop}{X:Sc}(h0:LXB SB FB w g F X)(hW:WX X)(hB:BSc X 900)(since:Int):
  Calls prog 127 #[.pointer (some ⟨g,0,none⟩),.int .i64 since] w λe w'=>∃v,e= .returned v/\LRes w w' (chL X.S since) v/\Bw w w':=by
 have kS:=hC.kb;have kF:=hF.kb;obtain⟨gs,gf,h⟩:=h0.open_;obtain⟨c0,c1,hg⟩:=h.reads;have kt:=kA (zcC c0);obtain⟨Fs,Kk,_,hS⟩:=h.withS kS kF;have Ku:=kA (hC.changed w gs Fs X.S since hW.ws (hB.bd.mono om) (hS w (Below.refl _ _)).1);obtain⟨L,hL⟩:∃L,L=chL X.S since:=⟨_,rfl⟩;rw[<-hL]at Ku ⊢;clear hL h0 hW hB hC hF kS kF h Kk hS;go_enter func127,ntmps127;go_wp2_with fail;refine kt.mono ?_;rintro e w1 ⟨rfl,rfl⟩;go_wp2_with fail;refine Ku.mono ?_;rintro e w1 ⟨v,rfl,⟨a,cap,rfl,lr,ln⟩,b1⟩;have HR:Hid (LRes w w1 L (.slice a L.length cap)/\Bw w w1):=kA ⟨⟨a,cap,rfl,lr,ln⟩,b1⟩;clear lr ln b1 Ku kt c0 c1 hg;go_wp2;go_ret;exact⟨_,rfl,HR.1,HR.2⟩
theorem zmc(hC:SCx SB)(hF:FCx FB){w:World}{g:Nat}{F:Nat->Prop}{X:Sc}(h0:LXB SB FB w g F X)(hW:WX X)(hB:BSc X 900)(since:Int):
  Calls prog 68 #[.pointer (some ⟨g,0,none⟩),.int .i64 since] w λe w'=>∃v,e= .returned v/\LRes w w' (goL X.S since) v/\Bw w w':=by
 have kS:=hC.kb;have kF:=hF.kb;obtain⟨gs,gf,h⟩:=h0.open_;obtain⟨c0,c1,hg⟩:=h.reads;have kt:=kA (zcC c0);obtain⟨Fs,Kk,_,hS⟩:=h.withS kS kF;have Ku:=kA (hC.gone w gs Fs X.S since hW.ws (hB.bd.mono om) (hS w (Below.refl _ _)).1);obtain⟨L,hL⟩:∃L,L=goL X.S since:=⟨_,rfl⟩;rw[<-hL]at Ku ⊢;clear hL h0 hW hB hC hF kS kF h Kk hS;go_enter func68,ntmps68;go_wp2_with fail;refine kt.mono ?_;rintro e w1 ⟨rfl,rfl⟩;go_wp2_with fail;refine Ku.mono ?_;rintro e w1 ⟨v,rfl,⟨a,cap,rfl,lr,ln⟩,b1⟩;have HR:Hid (LRes w w1 L (.slice a L.length cap)/\Bw w w1):=kA ⟨⟨a,cap,rfl,lr,ln⟩,b1⟩;clear lr ln b1 Ku kt c0 c1 hg;go_wp2;go_ret;exact⟨_,rfl,HR.1,HR.2⟩
theorem zmd(hC:SCx SB)(hF:FCx FB){w:World}{g:Nat}{F:Nat->Prop}{X:Sc}(h0:LXB SB FB w g F X)(hW:WX X)(hB:BSc X 900):
  Calls prog 16 #[.pointer (some ⟨g,0,none⟩)] w λe w'=>e= .returned (.int .i64 X.S.now)/\Bw w w':=by
 have kS:=hC.kb;have kF:=hF.kb;obtain⟨gs,gf,h⟩:=h0.open_;obtain⟨c0,c1,hg⟩:=h.reads;have kt:=kA (zcC c0);obtain⟨Fs,Kk,_,hS⟩:=h.withS kS kF;have Ku:=kA (hC.tick w gs Fs X.S hW.ws (hB.bd.mono om) (hS w (Below.refl _ _)).1);obtain⟨nw,Dm⟩:∃nw,nw=X.S.now:=⟨_,rfl⟩;rw[<-Dm]at Ku ⊢;clear Dm h0 hW hB hC hF kS kF h Kk hS;go_enter func16,ntmps16;go_wp2_with fail;refine kt.mono ?_;rintro e w1 ⟨rfl,rfl⟩;go_wp2_with fail;refine Ku.mono ?_;rintro e w1 ⟨rfl,b1⟩;have HB:=kA b1;clear b1 Ku kt c0 c1 hg;go_wp2;go_ret;exact⟨rfl,HB⟩
theorem zme(hC:SCx SB)(hF:FCx FB){w:World}{g:Nat}{F:Nat->Prop}{X:Sc}(h0:LXB SB FB w g F X)(hW:WX X)(hB:BSc X 900):
  Calls prog 33 #[.pointer (some ⟨g,0,none⟩)] w λe w'=>e= .returned (.int .i64 (X.S.now+1))/\ChB (LXB SB FB) w w' g F (zfY X):=by
 have kS:=hC.kb;have kF:=hF.kb;obtain⟨gs,gf,h⟩:=h0.open_;obtain⟨c0,c1,hg⟩:=h.reads;have kt:=kA (zcC c0);obtain⟨Fs,Kk,_,hS⟩:=h.withS kS kF;have Ku:=kA (hC.next w gs Fs X.S hW.ws (hB.bd.mono om) (hS w (Below.refl _ _)).1);have HD:Hid (∀w',Chg SB w w' gs Fs (neS X.S)->ChB (LXB SB FB) w w' g F (zfY X)):=kA (λw' q=>((hS w (Below.refl _ _)).2 _ _ q).done);obtain⟨nw,Dm⟩:∃nw,nw=X.S.now:=⟨_,rfl⟩;rw[<-Dm]at Ku ⊢;clear Dm h0 hW hB hC hF kS kF h Kk hS;go_enter func33,ntmps33;go_wp2_with fail;refine kt.mono ?_;rintro e w1 ⟨rfl,rfl⟩;go_wp2_with fail;refine Ku.mono ?_;rintro e w1 ⟨rfl,hc⟩;have HB:=kA (HD _ hc);clear hc Ku kt c0 c1 hg HD;go_wp2;go_ret;exact⟨rfl,HB⟩
theorem zoV(hC:SCx SB)(hF:FCx FB){w:World}{g:Nat}{F:Nat->Prop}{X:Sc}(h0:LXB SB FB w g F X)(hW:WX X)(hB:BSc X 900)(id:Int)(a:Option Addr)(n cap:Nat)(ks:List Int)(hn:n<=900)(row:Row w a n ks)(Kt:Aw F a n):
  Calls prog 48 #[.pointer (some ⟨g,0,none⟩),.int .i64 id,.slice a n cap] w λe w'=>e= .returned (.int .i64 (cuE X.S id ks))/\ChB (LXB SB FB) w w' g F (zoD X id ks):=by
 have kS:=hC.kb;have kF:=hF.kb;obtain⟨gs,gf,h⟩:=h0.open_;obtain⟨c0,c1,hg⟩:=h.reads;have kt:=kA (zcC c0);obtain⟨Fs,Kk,CY,hS⟩:=h.withS kS kF;have Ku:=kA (hC.cut w gs Fs X.S id a n cap ks hW.ws (hB.bd.mono om) (hS w (Below.refl _ _)).1 om row (zu8 Kt row (Nat.le_refl _) CY));have HD:Hid (∀w',Chg SB w w' gs Fs (cuS X.S id ks)->ChB (LXB SB FB) w w' g F (zoD X id ks)):=kA (λw' q=>((hS w (Below.refl _ _)).2 _ _ q).done);obtain⟨E,hE⟩:∃E,E=cuE X.S id ks:=⟨_,rfl⟩;rw[<-hE]at Ku ⊢;clear hE h0 hW hB hC hF kS kF h Kk CY hS row Kt;go_enter func48,ntmps48;go_wp2_with fail;refine kt.mono ?_;rintro e w1 ⟨rfl,rfl⟩;go_wp2_with fail;refine Ku.mono ?_;rintro e w1 ⟨rfl,hc⟩;have HB:=kA (HD _ hc);clear hc Ku kt c0 c1 hg HD;go_wp2;go_ret;exact⟨rfl,HB⟩
theorem zoW(hC:SCx SB)(hF:FCx FB){w:World}{g:Nat}{F:Nat->Prop}{X:Sc}(h0:LXB SB FB w g F X)(hW:WX X)(hB:BSc X 900)(id:Int)(P:PT)(a:Option Addr)(n cap:Nat)(ks:List Int)(hn:n<=900)(row:Row w a n ks)(Kt:Aw F a n):
  Calls prog 47 #[.pointer (some ⟨g,0,none⟩),.int .i64 id,.agg (pl P).toArray,.slice a n cap] w λe w'=>e= .returned (.int .i64 (puE X.S id P ks))/\ChB (LXB SB FB) w w' g F (znk X id P ks):=by
 have kS:=hC.kb;have kF:=hF.kb;obtain⟨gs,gf,h⟩:=h0.open_;have kt:Hid (∀u,Bw w u->Calls prog 42 #[.pointer (some ⟨g,0,none⟩)] u λe w'=>e= .returned (.pointer (some ⟨gs,0,none⟩))/\u=w'):=kA (λu q=>zcC (h.keep kS kF q).reads.1);obtain⟨Fs,Kk,CY,hS⟩:=h.withS kS kF
 have CZ:Hid (∀u,Bw w u->w.heap.size<u.heap.size->Calls prog 93 #[.pointer (some ⟨gs,0,none⟩),.int .i64 id,.agg (pl P).toArray,.slice a n cap] u λe w'=>e= .returned (.int .i64 (puE X.S id P ks))/\ChB (LXB SB FB) w w' g F (znk X id P ks)/\w'.heap[w.heap.size]? =u.heap[w.heap.size]?):=kA (λu q c=>(hC.put u gs Fs X.S id P a n cap ks hW.ws (hB.bd.mono om) (hS u q).1 om (zar row q) (zu8 Kt row (Nat.le_refl _) CY)).mono λe w' k=>⟨k.1,((hS u q).2 _ _ k.2).done,by
  obtain⟨_,_,f,_⟩:=k.2
  exact f.2.2.2.2 _ c (λz=>by have:=Kk _ z;omega)⟩)
 have Hb:=kA (zaJ P);have hg:g<w.heap.size:=h.reads.2.2;obtain⟨E,hE⟩:∃E,E=puE X.S id P ks:=⟨_,rfl⟩;rw[<-hE]at CZ ⊢;obtain⟨Xp,Hz⟩:∃Xp,Xp=pl P:=⟨_,rfl⟩;rw[<-Hz]at CZ Hb ⊢;have KP:=kA (Blk.new w 52 Xp.toArray);have Hk:Hid (Bw w (w.alloc (.cells Xp.toArray 52))):=kA (zaa _ _);clear Hz hE h0 hW hB hC hF kS kF h Kk CY hS row Kt;go_enter func47,ntmps47;go_upto_region 1 with fail;refine fin (λW=>W.rangeAt w.heap.size 0 Xp/\Bw w W/\w.heap.size<W.heap.size) ⟨zac KP,Hk.out,KP.lt⟩ ?_;clear KP Hk;rintro W0 ⟨r0,Hq,zb⟩;have Hk:=kA Hq;have dV:=kA r0;clear Hq;refine wp_region_held_drew (S:=λw'=>w'.rangeAt w.heap.size 0 Xp) oM (r0) (λhHeld=> ?_);refine tk 0 hHeld ?_;refine tk 2 hHeld ?_;refine tkl 3 rfl (yieldsIf_load_mid (by rfl) _ _ rfl _ _ rfl _ _ (λ_ h=>h) underlying52 rfl Hb) hHeld ?_;refine tk 4 hHeld ?_;refine rd 1 (λK hK=> ?_);go_simp
 go_at_call 42
 refine (kt _ (zad Hk (zbh _))).mono ?_;rintro e w2 ⟨rfl,rfl⟩;go_wp2_with fail;refine hK.out _ _ (r0) (λhHeld=> ?_);clear hK K;refine rd 5 (λK hK=> ?_);go_simp
 go_at_call 93
 refine (CZ _ (zad Hk (zbh _)) zb).mono ?_;rintro e w3 ⟨rfl,Dt,cQ⟩;have HP:=kA Dt;have Dh:=kA (zaP dV cQ);clear cQ Dt;go_wp2_with fail;refine hK.out _ _ (Dh.out) (λhHeld=> ?_);clear hK K;refine tk 6 hHeld ?_;refine wpAnyH_done oM ?_ _;clear hHeld r0 zb CZ kt dV Dh;go_wp2;go_ret;exact⟨rfl,HP⟩
theorem zig(hC:SCx SB)(hF:FCx FB){w:World}{g:Nat}{F:Nat->Prop}{X:Sc}(h0:LXB SB FB w g F X)(hW:WX X)(hB:BSc X 900)(id:Int):
  Calls prog 136 #[.pointer (some ⟨g,0,none⟩),.int .i64 id] w λe w'=>∃Y,e= .returned (.tuple #[.agg (toArray Y),.bool (zcF X.S id)])/\Y=pl (zby X.S id)/\Bw w w':=by
 have kS:=hC.kb;have kF:=hF.kb;obtain⟨gs,gf,h⟩:=h0.open_;have kt:Hid (∀u,Bw w u->Calls prog 42 #[.pointer (some ⟨g,0,none⟩)] u λe w'=>e= .returned (.pointer (some ⟨gs,0,none⟩))/\u=w'):=kA (λu q=>zcC (h.keep kS kF q).reads.1);obtain⟨Fs,Kk,CY,hS⟩:=h.withS kS kF;obtain⟨ok,H8⟩:∃ok,ok=zcF X.S id:=⟨_,rfl⟩;obtain⟨Xp,Hz⟩:∃Xp,Xp=pl (zby X.S id):=⟨_,rfl⟩;have Qh:Hid (∀u,Bw w u->Calls prog 213 #[.pointer (some ⟨gs,0,none⟩),.int .i64 id] u λe w'=>e= .returned (.tuple #[.agg Xp.toArray,.bool ok])/\Bw u w'):=kA (λu q=>(hC.get u gs Fs X.S id hW.ws (hB.bd.mono om) (hS u q).1).mono λe w' ⟨Y,k1,k2,k3⟩=>⟨by rw[k1,k2,Hz,H8],k3⟩);have ko:Hid (PXs Xp):=kA (by rw[Hz];exact⟨zcu _,zaJ _,zbL _,zc8 _⟩);have hg:g<w.heap.size:=h.reads.2.2;have K4:=kA (Blk.new w 52 Z24.toArray);have kP:Hid (Bw w (w.alloc (.cells Z24.toArray 52))):=kA (zaa _ _);rw[<-H8,<-Hz];clear H8 Hz h0 hW hB hC hF kS kF h Kk CY hS;go_enter func136,ntmps136;go_wp2_with fail;refine (kt _ kP).mono ?_;rintro e w1 ⟨rfl,rfl⟩;go_wp2_with fail;refine (Qh _ kP).mono ?_;rintro e w1 ⟨rfl,b1⟩;replace K4:=kA (K4.keep b1);replace kP:=kA (zad kP b1);have Ka:Hid (w1.there w.heap.size 0 Xp.toArray.size):=kA (zae K4 (by rw[size_toArray,ko.1];exact Nat.le_refl 24));have L4:Hid (Blk (w1.setCells w.heap.size 0 Xp) w.heap.size 52 Xp.toArray):=kA (zal K4 (by rw[ko.1];rfl));clear b1 Qh kt;go_wp2_with (refine wpList_store_mid rfl 52 (.tmp 4) (.tmp 10) rfl w.heap.size 0 Xp.toArray rfl rfl Ka ko.2.2.1 ko.2.2.2 ?_);refine fin (λW=>Blk W w.heap.size 52 Xp.toArray/\Bw w W) ⟨L4,zab _ kP (Nat.le_refl _)⟩ ?_;rintro W ⟨kr,hb⟩;have hl:=run_loadVar_mid W w.heap.size 0 52 Xp _ (zac kr) underlying52 rfl ko.2.1
 try simp only[Go.Act.put,setIfInBounds_toArray,set_cons_zero,set_cons_succ]
 exact bodyPost_ret (v:= .tuple #[.agg Xp.toArray,.bool ok]) (zan results136 rfl rfl hl) rfl ⟨Xp,rfl,rfl,hb⟩
theorem zfb(hC:SCx SB)(hF:FCx FB){w:World}{g:Nat}{F:Nat->Prop}{X:Sc}(h0:LXB SB FB w g F X)(hW:WX X)(hB:BSc X 900)(id:Int)(hid:Rg id):
  Calls prog 196 #[.pointer (some ⟨g,0,none⟩),.int .i64 id] w λe w'=>e= .returned (.tuple #[.int .i64 (zjr (zak X.L id)),.bool (zak X.L id).isSome])/\Bw w w':=by
 have kS:=hC.kb;have kF:=hF.kb;obtain⟨gs,gf,h⟩:=h0.open_;obtain⟨c0,c1,hg⟩:=h.reads;obtain⟨Ff,Kk,CY,Cm⟩:=h.withF kS kF;have yp:X.L.length<=900:=hB.len;have Do:=kA (hF.parent w gf Ff X.L id hW.wf (show X.L.length<=1000 by omega) (Cm w (Below.refl _ _)).1 hid);obtain⟨pv,X7⟩:∃pv,pv=zjr (zak X.L id):=⟨_,rfl⟩;obtain⟨is,Zp⟩:∃is,is=(zak X.L id).isSome:=⟨_,rfl⟩;rw[<-X7,<-Zp]at Do ⊢;clear X7 Zp h0 hW hB hC hF kS kF h Kk CY Cm hid yp;go_enter func196,ntmps196;go_wp2_with fail;refine Do.mono ?_;rintro e w1 ⟨rfl,b1⟩;have HB:=kA b1;clear b1 Do c0 c1 hg;go_wp2;go_ret2;exact⟨rfl,HB⟩
end
end Go.Proofs.YtlibdcmcbinfnaaGreat
