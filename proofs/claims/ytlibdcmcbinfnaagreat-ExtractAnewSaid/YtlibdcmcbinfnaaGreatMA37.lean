/- Lemmas. -/
import Derived.Test.YtlibdcmcbinfnaaGreatMA32
set_option maxHeartbeats 100000000
set_option maxRecDepth 1000000
namespace Go.Proofs.YtlibdcmcbinfnaaGreat
open _root_.Go.Proofs.Tryz List Nat
open Go.RowKit
section
variable {SB:World->Nat->(Nat->Prop)->St->Prop} {FB:World->Nat->(Nat->Prop)->FT->Prop}
theorem zoY(hC:SCx SB)(hF:FCx FB)(w:World)(r:Nat)(hr:r<=256):
  Calls prog 7 #[.int .i64 r] w λe w'=>∃g F,e= .returned (.tuple #[.pointer (some ⟨g,0,none⟩),.int .i64 0])/\LXB SB FB w' g F (Sc0 r)/\(∀b,F b->w.heap.size<=b)/\Bw w w':=by
 have HN:=kA (hC.new w r hr);have CI:=kA hF.new;have HK:=kA (And.intro hC.kb hF.kb);clear hC hF;go_enter func7,ntmps7;go_wp2_with fail;refine HN.mono ?_;rintro e w1 ⟨gs,Fs,rfl,hs,fs,b1⟩;have kW:=kA (And.intro hs (And.intro fs b1));clear hs fs b1 HN;go_wp2_with fail;refine (CI w1).mono ?_;rintro e w2 ⟨gf,Ff,rfl,hf,ff,b2⟩
 have HE:Hid (∃F,LXB SB FB (w2.alloc (.cells #[.pointer (some ⟨gs,0,none⟩),.pointer (some ⟨gf,0,none⟩)] 100)) w2.heap.size F (Sc0 r)/\(∀b,F b->w.heap.size<=b)/\Bw w (w2.alloc (.cells #[.pointer (some ⟨gs,0,none⟩),.pointer (some ⟨gf,0,none⟩)] 100))):=kA (by
  obtain⟨hs,fs,b1⟩:=kW;obtain⟨kS,kF⟩:=HK;have Hl:=zaa w2 (.cells #[.pointer (some ⟨gs,0,none⟩),.pointer (some ⟨gf,0,none⟩)] 100);have XY:=kS.keep hs b2;have i1:=kS.inb _ _ _ _ hs;have i2:=kF.inb _ _ _ _ hf;refine⟨λb=>b=w2.heap.size∨Fs b∨Ff b,⟨gs,gf,Fs,Ff,Blk.new w2 _ _,⟨kS.keep XY Hl,kF.keep hf Hl,λb c d=> ?_,λb c=> ?_,λb c=> ?_⟩,λ_=>Iff.rfl⟩,λb c=> ?_,zag (zad b1 b2) _⟩
  ·have:=i1 b c;have:=ff b d;omega
  ·have c':b=w2.heap.size:=c;refine⟨λd=> ?_,λd=> ?_⟩
   ·have:=i1 b d;have:=b2.size;omega
   ·have:=i2 b d;omega
  ·have c':b=w2.heap.size:=c;rw[c'];simp
  ·have z1:=b1.size;have z2:=b2.size;rcases c with c | c | c
   ·omega
   ·exact fs b c
   ·have:=ff b c;omega)
 clear hf ff b2 CI kW HK;go_wp2;go_ret2;obtain⟨F,k1,k2,k3⟩:=HE;exact⟨_,F,rfl,k1,k2,k3⟩
theorem zoZ(hC:SCx SB)(w:World)(x:Int)(hx:x<0∨256<x):
  Calls prog 7 #[.int .i64 x] w λe w'=>e= .returned (.tuple #[.pointer none,.int .i64 1])/\Bw w w':=by
 have HN:=kA (hC.bad w x hx);clear hC hx;go_enter func7,ntmps7;go_wp2_with fail;refine HN.mono ?_;rintro e w1 ⟨rfl,b1⟩;have HB:=kA b1;clear b1 HN;go_wp2;go_ret2;exact⟨rfl,HB⟩
theorem zkO(hC:SCx SB)(hF:FCx FB)(hL:SL SB){w:World}{g:Nat}{F:Nat->Prop}{X:Sc}(h0:LXB SB FB w g F X)(hW:WX X)(hB:BSc X 900)(P:PT)(p:Int)(hp:Rg p):
  Calls prog 28 #[.pointer (some ⟨g,0,none⟩),.agg (pl P).toArray,.int .i64 p] w λe w'=>e= .returned (.tuple #[.int .i64 (znp X P p),.int .i64 (zno X P p)])/\ChB (LXB SB FB) w w' g F (zeD X P p):=by
 have kS:=hC.kb;have kF:=hF.kb;have Xt:=zkD kS kF;have H0:=kA h0;have Mw:=kA Xt;obtain⟨gs,gf,h⟩:=h0.open_;have Dr:Hid (∀u,Bw w u->LPS SB FB w u g gs gf F X):=kA (λu q=>h.keep kS kF q);obtain⟨Fs,Ki,_,hS⟩:=h.withS kS kF;obtain⟨pp,xo⟩:=hL w gs Fs X.S (hS w (Below.refl _ _)).1;have yY:=kA xo
 have db:Hid (∀u,Bw w u->w.heap.size<u.heap.size->Calls prog 62 #[.pointer (some ⟨gs,0,none⟩),.agg (pl P).toArray] u λe w'=>e= .returned (.tuple #[.int .i64 (spV X.S P),.int .i64 (spE X.S P)])/\LPS SB FB w w' g gs gf F ⟨spS X.S P,X.L⟩/\w'.heap[w.heap.size]? =u.heap[w.heap.size]?):=kA (λu q c=>(hC.spawn u gs Fs X.S P hW.ws (hB.bd.mono om) (hS u q).1).mono λe w' k=>⟨k.1,(hS u q).2 _ _ k.2,by
  obtain⟨_,_,f,_⟩:=k.2
  exact f.2.2.2.2 _ c (λz=>by have:=Ki _ z;omega)⟩)
 have YQ:X.L.length<=900:=hB.len
 have Ky:Hid (∀u V,LPS SB FB w u g gs gf F ⟨spS X.S P,X.L⟩->Rg V->Calls prog 63 #[.pointer (some ⟨gf,0,none⟩),.int .i64 V,.int .i64 p] u λe w'=>(∃z:Int,e= .returned (.int .i64 z))/\LPS SB FB w w' g gs gf F ⟨spS X.S P,zbD X.L V p⟩):=kA (λu V k hv=>by
  obtain⟨Ff,_,_,xp⟩:=k.withF kS kF
  exact (hF.set u gf Ff X.L V p hW.wf (show X.L.length<=1000 by omega) (xp u (Below.refl _ _)).1 hv hp).mono λe w' q=>⟨⟨_,q.1⟩,((xp u (Below.refl _ _)).2 _ _ q.2).1⟩)
 have DK:Hid (spE X.S P=0->Rg (spV X.S P)):=kA (λhe=>by
  have h1:zai (spS X.S P) (spV X.S P)=true:=(zfy hW.ws he _).2 (.inr rfl);have h2:=zaR.1 h1;unfold Rg
  omega)
 have Ha:=kA (zaJ P);obtain⟨lv,xV⟩:∃lv,lv=zai X.S p:=⟨_,rfl⟩;obtain⟨V,hV⟩:∃V,V=spV X.S P:=⟨_,rfl⟩;obtain⟨E,hE⟩:∃E,E=spE X.S P:=⟨_,rfl⟩;have Hr:Hid (noP X.S p=true->znp X P p=0/\zno X P p=4/\zeD X P p=X):=kA (λc=>by unfold znp zno zeD;rw[if_pos c,if_pos c,if_pos c];exact⟨rfl,rfl,rfl⟩);have Ht:Hid (noP X.S p=false->znp X P p=V/\zno X P p=E/\zeD X P p=⟨spS X.S P,if E=0/\0<=p then zbD X.L V p else X.L⟩):=kA (λc=>by unfold znp zno zeD;rw[c,hV,hE];exact⟨rfl,rfl,rfl⟩)
 have Qv:Hid (E≠0->V=0):=kA (λc=>by rw[hV];unfold spV;rw[if_neg (by rw[<-hE];exact c)]);have Qw:Hid (noP X.S p=(decide (0<=p) && !lv)):=kA (by rw[xV];rfl);have Dq:Hid (∀u,Bw w u->Calls prog 61 #[.pointer (some ⟨pp,0,none⟩),.int .i64 p] u λe w'=>e= .returned (.bool lv)/\Bw u w'):=kA (λu q=>by rw[xV];exact (xo u q).2.2 p);rw[<-hV,<-hE]at db DK;obtain⟨Xp,H7⟩:∃Xp,Xp=pl P:=⟨_,rfl⟩;rw[<-H7]at db Ha ⊢;have KP:=kA (Blk.new w 52 Xp.toArray);have Hg:Hid (Bw w (w.alloc (.cells Xp.toArray 52))):=kA (zaa _ _);clear H7 hS Ki h0 h hW hB xV hV hE hC hF hL xo kS kF Xt YQ hp;go_enter func28,ntmps28
 by_cases hp:0<=p
 ·obtain⟨c0,c1,hg⟩:=(Dr _ Hg).reads;obtain⟨d0,Dt,-⟩:=yY.out _ Hg;go_wp2_with fail;refine (Dq _ Hg).mono ?_;rintro e w1 ⟨rfl,b1⟩;replace KP:=kA (KP.keep b1);replace Hg:=kA (zad Hg b1);clear b1 c0 c1 hg d0 Dt
  cases lv with
  | false=>
   have HN:=kA (Hr (by rw[Qw.out,decide_eq_true hp];rfl));have Hk:=kA (ChB.still Mw H0 Hg);clear Hr Ht Qw yY Dq db Ky DK;go_wp2;go_ret2;exact⟨by rw[HN.1,HN.2.1];rfl,by rw[HN.2.2];exact Hk.out⟩
  | true=>
   have hno:(decide (0<=p) && !true)=false:=by rw[decide_eq_true hp];rfl
   have HY:=kA (Ht (Qw.trans hno));clear Ht Hr Qw hno yY Dq;obtain⟨c0,c1,hg⟩:=(Dr _ Hg).reads;have rE:=Ha.out;go_upto_region 5 with fail;refine fin (λW=>LPS SB FB w W g gs gf F X/\W.rangeAt w.heap.size 0 Xp/\Bw w W/\w.heap.size<W.heap.size) ⟨Dr _ Hg,zac KP,Hg.out,KP.lt⟩ ?_;clear c0 c1 hg KP Hg;rintro W0 ⟨XG,r0,Hu,zb⟩;obtain⟨c0,-,hg⟩:=XG.reads;have Hg:=kA Hu;have dM:=kA r0;clear XG Hu;refine wp_region_held_drew (S:=λw'=>w'.cell? ⟨g,0,none⟩=some (.pointer (some ⟨gs,0,none⟩))/\w'.rangeAt w.heap.size 0 Xp) oM (⟨c0,r0⟩) (λhHeld=> ?_);refine tk 0 hHeld ?_;refine tk 1 hHeld ?_;refine tk 2 hHeld ?_;refine tk 3 hHeld ?_;refine tkl 4 rfl (yieldsIf_load_mid (by rfl) _ _ rfl _ _ rfl _ _ (λ_ h=>h.2) underlying52 rfl Ha) hHeld ?_;refine rd 5 (λK hK=> ?_);go_simp
   go_at_call 62
   refine (db _ (zad Hg (zbi _)) zb).mono ?_;rintro e w3 ⟨rfl,Cg,C3⟩;have HP:=kA Cg;have cA:=kA (zaF dM C3);clear C3 Cg;go_wp2_with fail;refine hK.out _ _ (⟨HP.reads.1,cA⟩) (λhHeld=> ?_);clear hK K;refine tk 6 hHeld ?_;refine tk 7 hHeld ?_;refine tk 8 hHeld ?_;refine tk 9 hHeld ?_;refine tk 10 hHeld ?_;refine wpAnyH_done oM ?_ _;clear hHeld;obtain⟨c3,c4,KO⟩:=HP.reads;clear c0 r0 zb hg db Hg dM cA rE Ha Dr c3
   by_cases hE:E=0
   ·have Ji:=kA (DK hE);subst hE;have HT:=kA (Ky w3 V HP Ji);clear HP Ky DK Ji Qv;go_wp2_with fail;refine HT.mono ?_;rintro e w4 ⟨⟨z,rfl⟩,hd⟩
    have HD:Hid (ChB (LXB SB FB) w w4 g F (zeD X P p)):=kA (by
     rw[HY.2.2,if_pos (by first | exact⟨rfl,hp⟩ | exact⟨trivial,hp⟩)]
     exact hd.done)
    clear hd HT;go_wp2;go_ret2;exact⟨by rw[HY.1,HY.2.1];rfl,HD⟩
   ·have HD:Hid (ChB (LXB SB FB) w w3 g F (zeD X P p)):=kA (by
     rw[HY.2.2,if_neg (λq=>hE q.1)]
     exact HP.done)
    have qb:=kA (Qv hE);clear Qv DK;go_wp2;go_ret2;exact⟨by rw[HY.1,HY.2.1,qb.out];rfl,HD⟩
 ·have hno:(decide (0<=p) && !lv)=false:=by rw[decide_eq_false hp];rfl
  have HY:=kA (Ht (Qw.trans hno));clear Ht Hr Qw hno yY Dq;obtain⟨c0,c1,hg⟩:=(Dr _ Hg).reads;have rE:=Ha.out;go_upto_region 5 with fail;refine fin (λW=>LPS SB FB w W g gs gf F X/\W.rangeAt w.heap.size 0 Xp/\Bw w W/\w.heap.size<W.heap.size) ⟨Dr _ Hg,zac KP,Hg.out,KP.lt⟩ ?_;clear c0 c1 hg KP Hg;rintro W0 ⟨XG,r0,Hu,zb⟩;obtain⟨c0,-,hg⟩:=XG.reads;have Hg:=kA Hu;have dM:=kA r0;clear XG Hu;refine wp_region_held_drew (S:=λw'=>w'.cell? ⟨g,0,none⟩=some (.pointer (some ⟨gs,0,none⟩))/\w'.rangeAt w.heap.size 0 Xp) oM (⟨c0,r0⟩) (λhHeld=> ?_);refine tk 0 hHeld ?_;refine tk 1 hHeld ?_;refine tk 2 hHeld ?_;refine tk 3 hHeld ?_;refine tkl 4 rfl (yieldsIf_load_mid (by rfl) _ _ rfl _ _ rfl _ _ (λ_ h=>h.2) underlying52 rfl Ha) hHeld ?_;refine rd 5 (λK hK=> ?_);go_simp
  go_at_call 62
  refine (db _ (zad Hg (zbi _)) zb).mono ?_;rintro e w3 ⟨rfl,Cg,C3⟩;have HP:=kA Cg;have cA:=kA (zaF dM C3);clear C3 Cg;go_wp2_with fail;refine hK.out _ _ (⟨HP.reads.1,cA⟩) (λhHeld=> ?_);clear hK K;refine tk 6 hHeld ?_;refine tk 7 hHeld ?_;refine tk 8 hHeld ?_;refine tk 9 hHeld ?_;refine tk 10 hHeld ?_;refine wpAnyH_done oM ?_ _;clear hHeld;obtain⟨c3,c4,KO⟩:=HP.reads;clear c0 r0 zb hg db Hg dM cA rE Ha Dr c3
  have HD:Hid (ChB (LXB SB FB) w w3 g F (zeD X P p)):=kA (by
   rw[HY.2.2,if_neg (λq=>by have:=q.2;omega)]
   exact HP.done)
  by_cases hE:E=0
  ·subst hE;clear Qv DK;go_wp2;go_ret2;exact⟨by rw[HY.1,HY.2.1];rfl,HD⟩
  ·have qb:=kA (Qv hE);clear Qv DK;go_wp2;go_ret2;exact⟨by rw[HY.1,HY.2.1,qb.out];rfl,HD⟩
theorem zhJ(hC:SCx SB)(hF:FCx FB){w:World}{g:Nat}{F:Nat->Prop}{X:Sc}(h0:LXB SB FB w g F X)(hW:WX X)(hB:BSc X 900)(id:Int)(hid:Rg id):
  Calls prog 29 #[.pointer (some ⟨g,0,none⟩),.int .i64 id] w λe w'=>e= .returned (.int .i64 (deE X.S id))/\ChB (LXB SB FB) w w' g F (zfS X id):=by
 have kS:=hC.kb;have kF:=hF.kb;obtain⟨gs,gf,h⟩:=h0.open_;obtain⟨c0,c1,hg⟩:=h.reads;have kG:=kA (zcC c0);obtain⟨Fs,Ki,_,hS⟩:=h.withS kS kF;have Ya:Hid (Calls prog 64 #[.pointer (some ⟨gs,0,none⟩),.int .i64 id] w λe w'=>e= .returned (.int .i64 (deE X.S id))/\LPS SB FB w w' g gs gf F ⟨deS X.S id,X.L⟩):=kA ((hC.despawn w gs Fs X.S id hW.ws (hB.bd.mono om) (hS w (Below.refl _ _)).1).mono λe w' k=>⟨k.1,(hS w (Below.refl _ _)).2 _ _ k.2⟩);have YQ:X.L.length<=900:=hB.len;have KJ:Bd (deS X.S id) 1000:=(zyz hB.bd id).mono om;have YJ:WS (deS X.S id):=zyO hW.ws id;have XT:(chF X.L id).length<=1000:=Nat.le_trans (zeq X.L id) om;obtain⟨C,VF⟩:∃C,C=chF X.L id:=⟨_,rfl⟩;obtain⟨n,hn⟩:∃n,n=C.length:=⟨_,rfl⟩;obtain⟨S1,ya⟩:∃S1,S1=deS X.S id:=⟨_,rfl⟩
 have xk:Hid (∀u,LPS SB FB w u g gs gf F ⟨S1,X.L⟩->Calls prog 66 #[.pointer (some ⟨gf,0,none⟩),.int .i64 id] u λe w'=>∃a cap Fs,e= .returned (.slice a n cap)/\Row w' a n C/\SB w' gs Fs S1/\Aw Fs a n/\LPS SB FB w w' g gs gf F ⟨S1,zcJ X.L id⟩/\∀Km S',Chg SB w' Km gs Fs S'->LPS SB FB w Km g gs gf F ⟨S',zcJ X.L id⟩):=kA (λu k=>by
  obtain⟨Ff,_,_,xp⟩:=k.withF kS kF;refine (hF.drop u gf Ff X.L id hW.wf (show X.L.length<=1000 by omega) (xp u (Below.refl _ _)).1 hid).mono ?_;rintro e w' ⟨v,rfl,⟨a,cap,hv,He,ye⟩,Hi⟩;rw[<-VF,<-hn]at hv He ye;obtain⟨k1,k2⟩:=(xp u (Below.refl _ _)).2 _ _ Hi;obtain⟨Fs,k3,k4,k5⟩:=k2 a n ye
  exact⟨a,cap,Fs,by rw[hv],He,k3,k4,k1,k5⟩)
 have dG:Hid (∀u Fs a cap,SB u gs Fs S1->Row u a n C->Aw Fs a n->Calls prog 65 #[.pointer (some ⟨gs,0,none⟩),.slice a n cap] u λe w'=>(∃z:Int,e= .returned (.int .i64 z))/\Chg SB u w' gs Fs (toS S1 C)):=kA (λu Fs a cap k row Kj=>(hC.touch u gs Fs S1 a n cap C (by rw[ya];exact YJ) (by rw[ya];exact KJ) k (by rw[hn,VF];exact XT) row Kj).mono λe w' q=>⟨⟨_,q.1⟩,q.2⟩);have Ht:Hid (deE X.S id=0->zfS X id=⟨toS S1 C,zcJ X.L id⟩):=kA (λc=>by unfold zfS;rw[if_pos c,ya,VF]);have Hr:Hid (deE X.S id≠0->zfS X id=⟨S1,X.L⟩):=kA (λc=>by unfold zfS;rw[if_neg c,ya,zz2 c]);have qd:=kA (And.intro kS kF);rw[<-ya]at Ya;obtain⟨E,hE⟩:∃E,E=deE X.S id:=⟨_,rfl⟩;rw[<-hE]at Ya Ht Hr ⊢;clear h0 h hW hB hS Ki XT VF hn ya hE hC hF KJ YJ hid kS kF YQ;go_enter func29,ntmps29;go_wp2_with fail;refine kG.mono ?_;rintro e w1 ⟨rfl,rfl⟩;go_wp2_with fail;refine Ya.mono ?_;rintro e w1 ⟨rfl,hp⟩;have HP:=kA hp;clear hp c0 c1 hg Ya kG;obtain⟨c0,c1,hg⟩:=HP.reads
 by_cases hE:E=0
 ·have yi:=kA (Ht hE);clear Ht Hr;subst hE;have Bl:Hid (LPS SB FB w w1.drew g gs gf F ⟨S1,X.L⟩):=kA (LPS.keep qd.1 qd.2 HP (zbi _));go_wp2;refine wp_region_held_drew (S:=λw'=>w'.cell? ⟨g,0,none⟩=some (.pointer (some ⟨gs,0,none⟩))/\w'.cell? ⟨g,1,none⟩=some (.pointer (some ⟨gf,0,none⟩))) oM (⟨c0,c1⟩) (λhHeld=> ?_);refine tk 0 hHeld ?_;refine tk 1 hHeld ?_;refine tk 2 hHeld ?_;refine tk 3 hHeld ?_;refine tk 4 hHeld ?_;refine tk 5 hHeld ?_;refine tk 6 hHeld ?_;refine tk 7 hHeld ?_;refine tk 8 hHeld ?_;refine rd 9 (λK hK=> ?_);go_simp
  go_at_call 66
  refine (xk _ Bl).mono ?_;rintro e w2 ⟨a,cap,yD,rfl,row,XY,Kj,hp,hk⟩;have HT:=kA (dG w2 yD a cap XY row Kj);have HK:=kA hk;have ki:=kA hp.reads;clear row XY Kj hp hk HP Bl xk dG;go_wp2_with fail;refine hK.out _ _ (⟨ki.1,ki.2.1⟩) (λhHeld=> ?_);clear hK K;refine rd 10 (λK hK=> ?_);go_simp
  go_at_call 65
  refine HT.mono ?_;rintro e w3 ⟨⟨z,rfl⟩,Hi⟩;have Xm:=kA (HK _ _ Hi);clear Hi;go_wp2_with fail;refine hK.out _ _ (⟨Xm.reads.1,Xm.reads.2.1⟩) (λhHeld=> ?_);clear hK K;refine wpAnyH_done oM ?_ _;clear hHeld;have HD:=kA Xm.done;clear HK HT Xm ki c0 c1 hg;go_wp2;go_ret;exact⟨rfl,by rw[yi.out];exact HD.out⟩
 ·have HD:Hid (ChB (LXB SB FB) w w1 g F (zfS X id)):=kA (by rw[Hr.out hE];exact HP.done);clear HP xk dG Ht Hr;go_wp2;go_ret;exact⟨rfl,HD⟩
theorem zkP(hC:SCx SB)(hF:FCx FB)(hL:SL SB){w:World}{g:Nat}{F:Nat->Prop}{X:Sc}(h0:LXB SB FB w g F X)(hW:WX X)(hB:BSc X 900)(c p:Int)(yO:Rg c)(zH:Rg p):
  Calls prog 49 #[.pointer (some ⟨g,0,none⟩),.int .i64 c,.int .i64 p] w λe w'=>e= .returned (.int .i64 (zjz X c p))/\ChB (LXB SB FB) w w' g F (zf1 X c p):=by
 have kS:=hC.kb;have kF:=hF.kb;have Xt:=zkD kS kF;obtain⟨gs,gf,h⟩:=h0.open_;obtain⟨Fs,Ki,_,hS⟩:=h.withS kS kF;obtain⟨pp,xo⟩:=hL w gs Fs X.S (hS w (Below.refl _ _)).1
 have DL:Hid (∀u,Bw w u->u.cell? ⟨g,0,none⟩=some (.pointer (some ⟨gs,0,none⟩))/\u.cell? ⟨g,1,none⟩=some (.pointer (some ⟨gf,0,none⟩))/\g<u.heap.size/\u.cell? ⟨gs,0,none⟩=some (.pointer (some ⟨pp,0,none⟩))/\gs<u.heap.size):=kA (λu q=>by
  obtain⟨a1,a2,a3⟩:=(h.keep kS kF q).reads
  exact⟨a1,a2,a3,(xo u q).1,(xo u q).2.1⟩)
 have YQ:X.L.length<=900:=hB.len;obtain⟨lc,Yb⟩:∃b,b=zai X.S c:=⟨_,rfl⟩;obtain⟨lp,rG⟩:∃b,b=zai X.S p:=⟨_,rfl⟩;have D6:Hid (∀u,Bw w u->Calls prog 61 #[.pointer (some ⟨pp,0,none⟩),.int .i64 c] u λe w'=>e= .returned (.bool lc)/\Bw u w'):=kA (λu q=>by rw[Yb];exact (xo u q).2.2 c);have DW:Hid (∀u,Bw w u->Calls prog 61 #[.pointer (some ⟨pp,0,none⟩),.int .i64 p] u λe w'=>e= .returned (.bool lp)/\Bw u w'):=kA (λu q=>by rw[rG];exact (xo u q).2.2 p);have HE:Hid (zjz X c p=if lc && lp then zbr X.L c p else 4):=kA (by rw[Yb,rG];rfl)
 obtain⟨E,hE⟩:∃E,E=zbr X.L c p:=⟨_,rfl⟩
 have Ky:Hid (∀u,Bw w u->Calls prog 63 #[.pointer (some ⟨gf,0,none⟩),.int .i64 c,.int .i64 p] u λe w'=>e= .returned (.int .i64 E)/\LPS SB FB w w' g gs gf F ⟨X.S,zbD X.L c p⟩):=kA (λu q=>by
  obtain⟨Ff,_,_,xp⟩:=h.withF kS kF
  exact (hF.set u gf Ff X.L c p hW.wf (show X.L.length<=1000 by omega) (xp u q).1 yO zH).mono λe w' k=>⟨by rw[k.1,hE],((xp u q).2 _ _ k.2).1⟩)
 have dG:Hid (∀u L',LPS SB FB w u g gs gf F ⟨X.S,L'⟩->Calls prog 65 #[.pointer (some ⟨gs,0,none⟩),.slice (some ⟨u.heap.size,0,none⟩) 1 1] (u.alloc (.cells #[.int .i64 c] 81)) λe w'=>(∃z:Int,e= .returned (.int .i64 z))/\LPS SB FB w w' g gs gf F ⟨toS X.S [c],L'⟩):=kA (λu L' k=>by
  obtain⟨Fs,Ki,_,hS⟩:=k.withS kS kF;have Hl:=zaa u (.cells #[.int .i64 c] 81)
  exact (hC.touch _ gs Fs X.S (some ⟨u.heap.size,0,none⟩) 1 1 [c] hW.ws (hB.bd.mono om) (hS _ Hl).1 om (zn4 _ _ _) (zl8 Ki)).mono λe w' q=>⟨⟨_,q.1⟩,(hS _ Hl).2 _ _ q.2⟩)
 have Hk:Hid (∀u,Bw w u->ChB (LXB SB FB) w u g F X):=kA (λu q=>ChB.still Xt h0 q);have HX:Hid (zjz X c p=0->zf1 X c p=⟨toS X.S [c],zbD X.L c p⟩):=kA (λq=>by unfold zf1;rw[if_pos q]);have yj:Hid (zjz X c p≠0->zf1 X c p=X):=kA (λq=>by unfold zf1;rw[if_neg q]);have Dz:Hid (E≠0->zbD X.L c p=X.L):=kA (λq=>by unfold zbD;rw[if_neg (by rw[<-hE];exact q)]);clear h0 h hW hB Yb rG YQ hC hF hL kS kF Xt hS Ki xo yO zH;rw[<-hE]at HE;clear hE;obtain⟨c0,c1,hg,d0,Dt⟩:=DL.out w (Below.refl _ _);go_enter func49,ntmps49;go_wp2_with fail;refine (D6 _ (Below.refl _ _)).mono ?_;rintro e w1 ⟨rfl,b1⟩;have HB:=kA b1;clear b1 c0 c1 hg d0 Dt D6;obtain⟨c0,c1,hg,d0,Dt⟩:=DL.out w1 HB
 cases lc with
 | false=>
  have e1:zjz X c p=4:=by rw[HE.out];rfl
  have HD:Hid (ChB (LXB SB FB) w w1 g F (zf1 X c p)):=kA (by rw[yj.out (by rw[e1];decide)];exact Hk w1 HB);have Kk:=kA e1;clear e1 HE HX yj Dz dG Ky Hk DW DL;go_wp2;go_ret;exact⟨by rw[Kk.out];rfl,HD⟩
 | true=>
  go_wp2_with fail;refine (DW _ HB).mono ?_;rintro e w2 ⟨rfl,b2⟩;replace HB:=kA (zad HB b2);clear b2 c0 c1 hg d0 Dt DW;obtain⟨c0,c1,hg,d0,Dt⟩:=DL.out w2 HB
  cases lp with
  | false=>
   have e1:zjz X c p=4:=by rw[HE.out];rfl
   have HD:Hid (ChB (LXB SB FB) w w2 g F (zf1 X c p)):=kA (by rw[yj.out (by rw[e1];decide)];exact Hk w2 HB);have Kk:=kA e1;clear e1 HE HX yj Dz dG Ky Hk DL;go_wp2;go_ret;exact⟨by rw[Kk.out];rfl,HD⟩
  | true=>
   have Kk:Hid (zjz X c p=E):=kA (by rw[HE.out];rfl);clear HE Hk;go_wp2_with fail;refine (Ky _ HB).mono ?_;rintro e w3 ⟨rfl,hp⟩;have HP:=kA hp;clear hp c0 c1 hg d0 Dt Ky DL HB;obtain⟨c0,c1,hg⟩:=HP.reads
   by_cases hE:E=0
   ·have Kc:=kA (HX (Kk.trans hE));subst hE;have HT:=kA (dG _ _ HP);clear dG HP yj Dz HX;go_wp2_with fail;refine HT.mono ?_;rintro e w4 ⟨⟨z,rfl⟩,hp⟩;have HD:Hid (ChB (LXB SB FB) w w4 g F (zf1 X c p)):=kA (by rw[Kc.out];exact hp.done);clear hp HT Kc;go_wp2;go_ret;exact⟨by rw[Kk.out];rfl,HD⟩
   ·have HD:Hid (ChB (LXB SB FB) w w3 g F (zf1 X c p)):=kA (by
     rw[yj.out (by rw[Kk.out];exact hE)];have:=HP.done;rw[Dz.out hE]at this
     exact this)
    clear dG HP yj Dz HX;go_wp2;go_ret;exact⟨by rw[Kk.out];rfl,HD⟩
theorem zmh(hC:SCx SB)(hF:FCx FB)(hL:SL SB){w:World}{g:Nat}{F:Nat->Prop}{X:Sc}(h0:LXB SB FB w g F X)(hW:WX X)(hB:BSc X 900)(c:Int)(yO:Rg c):
  Calls prog 50 #[.pointer (some ⟨g,0,none⟩),.int .i64 c] w λe w'=>e= .returned (.int .i64 (ztR X c))/\ChB (LXB SB FB) w w' g F (zhd X c):=by
 have kS:=hC.kb;have kF:=hF.kb;have Xt:=zkD kS kF;obtain⟨gs,gf,h⟩:=h0.open_;obtain⟨Fs,Ki,_,hS⟩:=h.withS kS kF;obtain⟨pp,xo⟩:=hL w gs Fs X.S (hS w (Below.refl _ _)).1
 have DL:Hid (∀u,Bw w u->u.cell? ⟨g,0,none⟩=some (.pointer (some ⟨gs,0,none⟩))/\u.cell? ⟨g,1,none⟩=some (.pointer (some ⟨gf,0,none⟩))/\g<u.heap.size/\u.cell? ⟨gs,0,none⟩=some (.pointer (some ⟨pp,0,none⟩))/\gs<u.heap.size):=kA (λu q=>by
  obtain⟨a1,a2,a3⟩:=(h.keep kS kF q).reads
  exact⟨a1,a2,a3,(xo u q).1,(xo u q).2.1⟩)
 have YQ:X.L.length<=900:=hB.len;obtain⟨lc,Yb⟩:∃b,b=zai X.S c:=⟨_,rfl⟩;have D6:Hid (Calls prog 61 #[.pointer (some ⟨pp,0,none⟩),.int .i64 c] w λe w'=>e= .returned (.bool lc)/\Bw w w'):=kA (by rw[Yb];exact (xo w (Below.refl _ _)).2.2 c);have HE:Hid (ztR X c=if lc then 0 else 4):=kA (by rw[Yb];rfl)
 obtain⟨had,qe⟩:∃b,b=(zak X.L c).isSome:=⟨_,rfl⟩;obtain⟨fn,xX⟩:∃n:Nat,n=frN X.L [c]:=⟨_,rfl⟩;have Bm:fn=if had then 1 else 0:=by
  rw[xX,qe];show (if (zak X.L c).isSome then 1 else 0)+0=_
  rw[Nat.add_zero]
 have VG:=kA Bm
 have cW:Hid (∀u,Bw w u->Calls prog 95 #[.pointer (some ⟨gf,0,none⟩),.slice (some ⟨u.heap.size,0,none⟩) 1 1] (u.alloc (.cells #[.int .i64 c] 81)) λe w'=>e= .returned (.int .i64 fn)/\LPS SB FB w w' g gs gf F ⟨X.S,zaI X.L c⟩):=kA (λu q=>by
  obtain⟨Ff,rH,_,xp⟩:=(h.keep kS kF q).withF kS kF;have Hl:=zaa u (.cells #[.int .i64 c] 81)
  exact (hF.free _ gf Ff X.L (some ⟨u.heap.size,0,none⟩) 1 1 [c] hW.wf (show X.L.length<=1000 by omega) (xp _ Hl).1 om (zn4 _ _ _) (zl8 rH) (λx hx=>by rw[mem_singleton.1 hx];exact yO)).mono λe w' k=>⟨by rw[k.1,xX],((xp _ Hl).2 _ _ k.2).1⟩)
 have dG:Hid (∀u L',LPS SB FB w u g gs gf F ⟨X.S,L'⟩->Calls prog 65 #[.pointer (some ⟨gs,0,none⟩),.slice (some ⟨u.heap.size,0,none⟩) 1 1] (u.alloc (.cells #[.int .i64 c] 81)) λe w'=>(∃z:Int,e= .returned (.int .i64 z))/\LPS SB FB w w' g gs gf F ⟨toS X.S [c],L'⟩):=kA (λu L' k=>by
  obtain⟨Fs,Ki,_,hS⟩:=k.withS kS kF;have Hl:=zaa u (.cells #[.int .i64 c] 81)
  exact (hC.touch _ gs Fs X.S (some ⟨u.heap.size,0,none⟩) 1 1 [c] hW.ws (hB.bd.mono om) (hS _ Hl).1 om (zn4 _ _ _) (zl8 Ki)).mono λe w' q=>⟨⟨_,q.1⟩,(hS _ Hl).2 _ _ q.2⟩)
 have Hk:Hid (lc=false->∀u,Bw w u->ChB (LXB SB FB) w u g F (zhd X c)):=kA (λq u b=>by
  have e:zhd X c=X:=by unfold zhd;rw[<-Yb,q];rfl
  rw[e]
  exact ChB.still Xt h0 b)
 have HX:Hid (lc=true->zhd X c=⟨if had then toS X.S [c] else X.S,zaI X.L c⟩):=kA (λq=>by unfold zhd;rw[<-Yb,q,qe];rfl)
 clear h0 h hW hB Yb qe YQ hC hF hL kS kF Xt hS Ki xo yO xX Bm;obtain⟨c0,c1,hg,d0,Dt⟩:=DL.out w (Below.refl _ _);go_enter func50,ntmps50;go_wp2_with fail;refine D6.mono ?_;rintro e w1 ⟨rfl,b1⟩;have HB:=kA b1;clear b1 c0 c1 hg d0 Dt D6;obtain⟨c0,c1,hg,d0,Dt⟩:=DL.out w1 HB
 cases lc with
 | false=>
  have HD:=kA (Hk rfl w1 HB);have Kk:Hid (ztR X c=4):=kA (by rw[HE.out];rfl);clear Hk HE HX dG cW DL;go_wp2;go_ret;exact⟨by rw[Kk.out];rfl,HD⟩
 | true=>
  have Kk:Hid (ztR X c=0):=kA (by rw[HE.out];rfl);have Kc:=kA (HX rfl);clear HE Hk HX;go_wp2_with fail;refine (cW w1 HB).mono ?_;rintro e w2 ⟨rfl,hp⟩;have HP:=kA hp;clear hp c0 c1 hg d0 Dt cW DL HB;obtain⟨c0,c1,hg⟩:=HP.reads
  cases had with
  | false=>
   have e0:fn=0:=VG.out;subst e0;have HD:Hid (ChB (LXB SB FB) w w2 g F (zhd X c)):=kA (by rw[Kc.out];exact HP.done);clear dG HP Kc VG;go_wp2;go_ret;exact⟨by rw[Kk.out];rfl,HD⟩
  | true=>
   have e0:fn=1:=VG.out;subst e0;have HT:=kA (dG _ _ HP);clear dG HP VG;go_wp2_with fail;refine HT.mono ?_;rintro e w3 ⟨⟨z,rfl⟩,hp⟩;have HD:Hid (ChB (LXB SB FB) w w3 g F (zhd X c)):=kA (by rw[Kc.out];exact hp.done);clear hp HT Kc;go_wp2;go_ret;exact⟨by rw[Kk.out];rfl,HD⟩
end
theorem zjp(n:Nd):NXs (cNd n) 205:=⟨rfl,oM,oM,all_oneCell_toArray (zlL n)⟩
theorem zuD{u0 u2 u3 u4 u5 u7 u8 u9 u10 u11 u12 u13 u14 u15 u16 u17 u18 u19 u20 u21 u22 u23 u24 u25 u26 u27 u28 u29 u30 u31 u32 u33 u34 u35 u36 u37 u38 u39 u40 u41 u42 u43:Value}{Q:Exit->Go.Act->World->Prop}{w:World}{g6:Nat}{id hs:Int}{hb:Bool}{XS X1:List Value}
  (hQ:∀c a d v w,Q (.panic c) (a.put d v) w->Q (.panic c) a w)
  (hS:∀W,Bw w W->W.cell? ⟨g6,0,none⟩=some (.int .i64 hs))
  (h1:∀W,Calls prog 194 #[] W λe w'=>e= .returned (.agg XS.toArray)/\Bw W w')
  (h5:∀W a,Row W a 1 [4]->Calls prog 195 #[.int .i64 hs,.slice a 1 1] W λe w'=>e= .returned (.bool hb)/\W=w')
  (KJ:∀W,(Instr.build 205 #[(0,.int .i64 id),(1,.int .i64 (-1)),(2,.agg XS.toArray),(3,.bool hb)]).run prog W= .ok (.agg X1.toArray) W)
  (CY:NXs X1 205)
  (hk:∀W' a8 a4,Bw w W'->Blk W' a8 205 X1.toArray->w.heap.size<=a8->Q .normal { tmps:= #[u0,.int .i64 id,u2,u3,u4,u5,.pointer (some ⟨g6,0,none⟩),u7,.pointer (some ⟨a8,0,none⟩),u9,u10,u11,u12,u13,u14,u15,u16,u17,u18,u19,.int .i64 id,.agg XS.toArray,.pointer (some ⟨g6,0,none⟩),.int .i64 hs,.slice (some ⟨a4,0,none⟩) 1 1,.bool hb,.agg X1.toArray,u27,u28,u29,u30,u31,u32,u33,u34,u35,u36,u37,u38,u39,u40,u41,u42,u43],defers:=[] } W'):
  (Code.region 4 #[{ dst := some 20, op := Op.move (Operand.tmp 1), type := 81, pos := "scene.go:128", after := #[], guard := none }, { dst := some 21, op := Op.call { callee := Callee.value (Operand.func 194), args := #[], argTypes := #[] }, type := 46, pos := "scene.go:128", after := #[], guard := none }, { dst := some 22, op := Op.fieldAddr 52 (Operand.tmp 6) 0, type := 0, pos := "scene.go:128", after := #[], guard := none }, { dst := some 23, op := Op.load 43 (Operand.tmp 22), type := 43, pos := "scene.go:128", after := #[{ on := 2, ground := Ground.data }], guard := none }, { dst := some 24, op := Op.buildSlice 53 1 #[(0, Operand.const (Value.int IntKind.i64 4))], type := 53, pos := "scene.go:128", after := #[], guard := none }, { dst := some 25, op := Op.call { callee := Callee.value (Operand.func 195), args := #[Operand.tmp 23, Operand.tmp 24], argTypes := #[43, 53] }, type := 4, pos := "scene.go:128", after := #[{ on := 3, ground := Ground.data }, { on := 4, ground := Ground.data }, { on := 1, ground := Ground.chain }], guard := none }, { dst := some 26, op := Op.build 205 #[(0, Operand.tmp 20), (1, Operand.const (Value.int IntKind.i64 (-1))), (2, Operand.tmp 21), (3, Operand.tmp 25)], type := 205, pos := "scene.go:128", after := #[{ on := 0, ground := Ground.data }, { on := 1, ground := Ground.data }, { on := 5, ground := Ground.data }], guard := none }, { dst := some 8, op := Op.alloc 205, type := 0, pos := "scene.go:128", after := #[], guard := none }, { dst := none, op := Op.store 205 (Operand.tmp 8) (Operand.tmp 26), type := 0, pos := "scene.go:128", after := #[{ on := 7, ground := Ground.data }, { on := 6, ground := Ground.data }, { on := 5, ground := Ground.chain }, { on := 0, ground := Ground.phase }, { on := 1, ground := Ground.phase }, { on := 2, ground := Ground.phase }, { on := 3, ground := Ground.phase }, { on := 4, ground := Ground.phase }, { on := 5, ground := Ground.phase }, { on := 6, ground := Ground.phase }, { on := 7, ground := Ground.phase }], guard := none }] true).wp prog Q { tmps := #[u0, .int .i64 id, u2, u3, u4, u5, .pointer (some ⟨g6, 0, none⟩), u7, u8, u9, u10, u11, u12, u13, u14, u15, u16, u17, u18, u19, u20, u21, u22, u23, u24, u25, u26, u27, u28, u29, u30, u31, u32, u33, u34, u35, u36, u37, u38, u39, u40, u41, u42, u43], defers := [] } w := by
 have HK:=kA hk;have HS:=kA hS;have H1:=kA h1;have H5:=kA h5;have KS:=kA KJ;have Kc:=kA CY;clear hk hS h1 h5 KJ CY;refine wp_region_held_drew (S:=λw'=>w'.cell? ⟨g6,0,none⟩=some (.int .i64 hs)) oM (HS _ (zbi _)) (λhHeld=> ?_);refine tk 0 hHeld ?_ (hQ:=λc a w h=>hQ c a _ _ w h);refine tk 2 hHeld ?_ (hQ:=λc a w h=>hQ c a _ _ w h);refine tk 3 hHeld ?_ (hQ:=λc a w h=>hQ c a _ _ w h);refine fin (λW=>Bw w W) (zbi _) ?_;clear hHeld;rintro y0 Hu;have Hb:=kA Hu;clear Hu;have hHeld:=HS.out _ Hb;refine wpAnyH_ready (rs:=[1,4,7]) oM (by simp) ?_;refine AllReadyH.cons rfl (λK hK=> ?_) (AllReadyH.cons rfl (λK hK=> ?_) (AllReadyH.cons rfl (λK hK=> ?_) AllReadyH.nil))
 ·skip
  go_simp
  go_at_call 194
  refine (H1 _).mono ?_;rintro e x0 ⟨rfl,b1⟩;go_wp2_with fail;refine hK.out _ _ (HS _ (zad Hb b1)) (λhHeld=> ?_);clear hK K hHeld;refine fin (λW=>Bw w W) (zad Hb b1) ?_;clear Hb;rintro y1 Hu;have Hb:=kA Hu;clear Hu;have hHeld:=HS.out _ Hb;clear b1;refine wpAnyH_ready (rs:=[4,7]) oM (by simp) ?_;refine AllReadyH.cons rfl (λK hK=> ?_) (AllReadyH.cons rfl (λK hK=> ?_) AllReadyH.nil)
  ·skip
   go_simp;refine hK.out _ _ (HS _ (zag Hb _)) (λhHeld=> ?_);clear hK K hHeld;refine fin (λW=>Bw w W/\Row W (some ⟨y1.heap.size,0,none⟩) 1 [4]) ⟨zag Hb _,zn4 _ _ _⟩ ?_;clear Hb;obtain⟨a4,H8⟩:∃n,n=y1.heap.size:=⟨_,rfl⟩;rw[<-H8];clear H8;rintro y2 ⟨Hu,r4⟩;have Hb:=kA Hu;have R4:=kA r4;clear Hu r4;have hHeld:=HS.out _ Hb;refine wpAnyH_ready (rs:=[5,7]) oM (by simp) ?_;refine AllReadyH.cons rfl (λK hK=> ?_) (AllReadyH.cons rfl (λK hK=> ?_) AllReadyH.nil)
   ·skip
    go_simp
    go_at_call 195
    refine (H5 _ _ R4).mono ?_;rintro e x2 ⟨rfl,rfl⟩;go_wp2_with fail;refine hK.out _ _ (HS _ Hb) (λhHeld=> ?_);clear hK K;refine wpAnyH_take (i:=6) (v:= .agg X1.toArray) rfl oM oM oM (λc a w h=>hQ c a _ _ w h) (za8 (by rfl) 205 (.tmp 20) (.const (.int .i64 (-1))) (.tmp 21) (.tmp 25) rfl (.int .i64 id) (.int .i64 (-1)) (.agg XS.toArray) (.bool hb) (.agg X1.toArray) rfl rfl rfl rfl KS) hHeld ?_;simp only[Act.put,getElem_toArray,getElem_cons_zero,getElem_cons_succ,setIfInBounds_toArray,set_cons_zero,set_cons_succ];refine rd 7 (λK hK=> ?_);have h8:w.heap.size<=y2.heap.size:=Hb.size;go_simp;refine hK.out _ _ (HS _ (zag Hb _)) (λhHeld=> ?_);clear hK K hHeld;refine fin (λW=>Bw w W/\Blk W y2.heap.size 205 (cNd n0d).toArray/\Row W (some ⟨a4,0,none⟩) 1 [4]) ⟨zag Hb _,Blk.new _ _ _,zar R4 (zaa _ _)⟩ ?_;clear Hb;clear R4;obtain⟨a8,H8⟩:∃n,n=y2.heap.size:=⟨_,rfl⟩;rw[<-H8]at h8 ⊢;clear H8;rintro y3 ⟨Hu,k8,r4⟩;have Hb:=kA Hu;have K8:=kA k8;have R4:=kA r4;clear Hu k8 r4;have hHeld:=HS.out _ Hb;refine rd 8 (λK hK=> ?_)
    try rw[if_pos (by rfl)]
    refine wp_store_mid 205 (.tmp 8) (.tmp 26) rfl a8 0 X1.toArray rfl rfl (zae K8 (by rw[size_toArray,Kc.len];exact Nat.le_refl 15)) Kc.sizea Kc.onea ?_;have KC:Hid (Bw w (y3.setCells a8 0 X1)):=kA (zab X1 Hb h8);refine hK.out _ _ (HS _ KC) (λhHeld=> ?_);clear hK K;refine wpAnyH_done oM ?_ _;clear hHeld;exact HK _ a8 a4 KC (zal K8 (by rw[Kc.len];rfl)) h8
   ·skip
    have h8:w.heap.size<=y2.heap.size:=Hb.size;go_simp;refine hK.out _ _ (HS _ (zag Hb _)) (λhHeld=> ?_);clear hK K hHeld;refine fin (λW=>Bw w W/\Blk W y2.heap.size 205 (cNd n0d).toArray/\Row W (some ⟨a4,0,none⟩) 1 [4]) ⟨zag Hb _,Blk.new _ _ _,zar R4 (zaa _ _)⟩ ?_;clear Hb;clear R4;obtain⟨a8,H8⟩:∃n,n=y2.heap.size:=⟨_,rfl⟩;rw[<-H8]at h8 ⊢;clear H8;rintro y4 ⟨Hu,k8,r4⟩;have Hb:=kA Hu;have K8:=kA k8;have R4:=kA r4;clear Hu k8 r4;have hHeld:=HS.out _ Hb;refine rd 5 (λK hK=> ?_);go_simp
    go_at_call 195
    refine (H5 _ _ R4).mono ?_;rintro e x4 ⟨rfl,rfl⟩;go_wp2_with fail;refine hK.out _ _ (HS _ Hb) (λhHeld=> ?_);clear hK K;refine wpAnyH_take (i:=6) (v:= .agg X1.toArray) rfl oM oM oM (λc a w h=>hQ c a _ _ w h) (za8 (by rfl) 205 (.tmp 20) (.const (.int .i64 (-1))) (.tmp 21) (.tmp 25) rfl (.int .i64 id) (.int .i64 (-1)) (.agg XS.toArray) (.bool hb) (.agg X1.toArray) rfl rfl rfl rfl KS) hHeld ?_;simp only[Act.put,getElem_toArray,getElem_cons_zero,getElem_cons_succ,setIfInBounds_toArray,set_cons_zero,set_cons_succ];refine rd 8 (λK hK=> ?_)
    try rw[if_pos (by rfl)]
    refine wp_store_mid 205 (.tmp 8) (.tmp 26) rfl a8 0 X1.toArray rfl rfl (zae K8 (by rw[size_toArray,Kc.len];exact Nat.le_refl 15)) Kc.sizea Kc.onea ?_;have KC:Hid (Bw w (y4.setCells a8 0 X1)):=kA (zab X1 Hb h8);refine hK.out _ _ (HS _ KC) (λhHeld=> ?_);clear hK K;refine wpAnyH_done oM ?_ _;clear hHeld;exact HK _ a8 a4 KC (zal K8 (by rw[Kc.len];rfl)) h8
  ·skip
   have h8:w.heap.size<=y1.heap.size:=Hb.size;go_simp;refine hK.out _ _ (HS _ (zag Hb _)) (λhHeld=> ?_);clear hK K hHeld;refine fin (λW=>Bw w W/\Blk W y1.heap.size 205 (cNd n0d).toArray) ⟨zag Hb _,Blk.new _ _ _⟩ ?_;clear Hb;obtain⟨a8,H8⟩:∃n,n=y1.heap.size:=⟨_,rfl⟩;rw[<-H8]at h8 ⊢;clear H8;rintro y5 ⟨Hu,k8⟩;have Hb:=kA Hu;have K8:=kA k8;clear Hu k8;have hHeld:=HS.out _ Hb;refine rd 4 (λK hK=> ?_);go_simp;refine hK.out _ _ (HS _ (zag Hb _)) (λhHeld=> ?_);clear hK K hHeld;refine fin (λW=>Bw w W/\Blk W a8 205 (cNd n0d).toArray/\Row W (some ⟨y5.heap.size,0,none⟩) 1 [4]) ⟨zag Hb _,K8.keep (zaa _ _),zn4 _ _ _⟩ ?_;clear Hb;clear K8;obtain⟨a4,H8⟩:∃n,n=y5.heap.size:=⟨_,rfl⟩;rw[<-H8];clear H8;rintro y6 ⟨Hu,k8,r4⟩;have Hb:=kA Hu;have K8:=kA k8;have R4:=kA r4;clear Hu k8 r4;have hHeld:=HS.out _ Hb;refine rd 5 (λK hK=> ?_);go_simp
   go_at_call 195
   refine (H5 _ _ R4).mono ?_;rintro e x6 ⟨rfl,rfl⟩;go_wp2_with fail;refine hK.out _ _ (HS _ Hb) (λhHeld=> ?_);clear hK K;refine wpAnyH_take (i:=6) (v:= .agg X1.toArray) rfl oM oM oM (λc a w h=>hQ c a _ _ w h) (za8 (by rfl) 205 (.tmp 20) (.const (.int .i64 (-1))) (.tmp 21) (.tmp 25) rfl (.int .i64 id) (.int .i64 (-1)) (.agg XS.toArray) (.bool hb) (.agg X1.toArray) rfl rfl rfl rfl KS) hHeld ?_;simp only[Act.put,getElem_toArray,getElem_cons_zero,getElem_cons_succ,setIfInBounds_toArray,set_cons_zero,set_cons_succ];refine rd 8 (λK hK=> ?_)
   try rw[if_pos (by rfl)]
   refine wp_store_mid 205 (.tmp 8) (.tmp 26) rfl a8 0 X1.toArray rfl rfl (zae K8 (by rw[size_toArray,Kc.len];exact Nat.le_refl 15)) Kc.sizea Kc.onea ?_;have KC:Hid (Bw w (y6.setCells a8 0 X1)):=kA (zab X1 Hb h8);refine hK.out _ _ (HS _ KC) (λhHeld=> ?_);clear hK K;refine wpAnyH_done oM ?_ _;clear hHeld;exact HK _ a8 a4 KC (zal K8 (by rw[Kc.len];rfl)) h8
 ·skip
  go_simp;refine hK.out _ _ (HS _ (zag Hb _)) (λhHeld=> ?_);clear hK K hHeld;refine fin (λW=>Bw w W/\Row W (some ⟨y0.heap.size,0,none⟩) 1 [4]) ⟨zag Hb _,zn4 _ _ _⟩ ?_;clear Hb;obtain⟨a4,H8⟩:∃n,n=y0.heap.size:=⟨_,rfl⟩;rw[<-H8];clear H8;rintro y7 ⟨Hu,r4⟩;have Hb:=kA Hu;have R4:=kA r4;clear Hu r4;have hHeld:=HS.out _ Hb;refine wpAnyH_ready (rs:=[1,7]) oM (by simp) ?_;refine AllReadyH.cons rfl (λK hK=> ?_) (AllReadyH.cons rfl (λK hK=> ?_) AllReadyH.nil)
  ·skip
   go_simp
   go_at_call 194
   refine (H1 _).mono ?_;rintro e x7 ⟨rfl,b1⟩;go_wp2_with fail;refine hK.out _ _ (HS _ (zad Hb b1)) (λhHeld=> ?_);clear hK K hHeld;refine fin (λW=>Bw w W/\Row W (some ⟨a4,0,none⟩) 1 [4]) ⟨zad Hb b1,zar R4 b1⟩ ?_;clear Hb;clear R4;rintro y8 ⟨Hu,r4⟩;have Hb:=kA Hu;have R4:=kA r4;clear Hu r4;have hHeld:=HS.out _ Hb;clear b1;refine wpAnyH_ready (rs:=[5,7]) oM (by simp) ?_;refine AllReadyH.cons rfl (λK hK=> ?_) (AllReadyH.cons rfl (λK hK=> ?_) AllReadyH.nil)
   ·skip
    go_simp
    go_at_call 195
    refine (H5 _ _ R4).mono ?_;rintro e x8 ⟨rfl,rfl⟩;go_wp2_with fail;refine hK.out _ _ (HS _ Hb) (λhHeld=> ?_);clear hK K;refine wpAnyH_take (i:=6) (v:= .agg X1.toArray) rfl oM oM oM (λc a w h=>hQ c a _ _ w h) (za8 (by rfl) 205 (.tmp 20) (.const (.int .i64 (-1))) (.tmp 21) (.tmp 25) rfl (.int .i64 id) (.int .i64 (-1)) (.agg XS.toArray) (.bool hb) (.agg X1.toArray) rfl rfl rfl rfl KS) hHeld ?_;simp only[Act.put,getElem_toArray,getElem_cons_zero,getElem_cons_succ,setIfInBounds_toArray,set_cons_zero,set_cons_succ];refine rd 7 (λK hK=> ?_);have h8:w.heap.size<=y8.heap.size:=Hb.size;go_simp;refine hK.out _ _ (HS _ (zag Hb _)) (λhHeld=> ?_);clear hK K hHeld;refine fin (λW=>Bw w W/\Blk W y8.heap.size 205 (cNd n0d).toArray/\Row W (some ⟨a4,0,none⟩) 1 [4]) ⟨zag Hb _,Blk.new _ _ _,zar R4 (zaa _ _)⟩ ?_;clear Hb;clear R4;obtain⟨a8,H8⟩:∃n,n=y8.heap.size:=⟨_,rfl⟩;rw[<-H8]at h8 ⊢;clear H8;rintro y9 ⟨Hu,k8,r4⟩;have Hb:=kA Hu;have K8:=kA k8;have R4:=kA r4;clear Hu k8 r4;have hHeld:=HS.out _ Hb;refine rd 8 (λK hK=> ?_)
    try rw[if_pos (by rfl)]
    refine wp_store_mid 205 (.tmp 8) (.tmp 26) rfl a8 0 X1.toArray rfl rfl (zae K8 (by rw[size_toArray,Kc.len];exact Nat.le_refl 15)) Kc.sizea Kc.onea ?_;have KC:Hid (Bw w (y9.setCells a8 0 X1)):=kA (zab X1 Hb h8);refine hK.out _ _ (HS _ KC) (λhHeld=> ?_);clear hK K;refine wpAnyH_done oM ?_ _;clear hHeld;exact HK _ a8 a4 KC (zal K8 (by rw[Kc.len];rfl)) h8
   ·skip
    have h8:w.heap.size<=y8.heap.size:=Hb.size;go_simp;refine hK.out _ _ (HS _ (zag Hb _)) (λhHeld=> ?_);clear hK K hHeld;refine fin (λW=>Bw w W/\Blk W y8.heap.size 205 (cNd n0d).toArray/\Row W (some ⟨a4,0,none⟩) 1 [4]) ⟨zag Hb _,Blk.new _ _ _,zar R4 (zaa _ _)⟩ ?_;clear Hb;clear R4;obtain⟨a8,H8⟩:∃n,n=y8.heap.size:=⟨_,rfl⟩;rw[<-H8]at h8 ⊢;clear H8;rintro vS ⟨Hu,k8,r4⟩;have Hb:=kA Hu;have K8:=kA k8;have R4:=kA r4;clear Hu k8 r4;have hHeld:=HS.out _ Hb;refine rd 5 (λK hK=> ?_);go_simp
    go_at_call 195
    refine (H5 _ _ R4).mono ?_;rintro e cj ⟨rfl,rfl⟩;go_wp2_with fail;refine hK.out _ _ (HS _ Hb) (λhHeld=> ?_);clear hK K;refine wpAnyH_take (i:=6) (v:= .agg X1.toArray) rfl oM oM oM (λc a w h=>hQ c a _ _ w h) (za8 (by rfl) 205 (.tmp 20) (.const (.int .i64 (-1))) (.tmp 21) (.tmp 25) rfl (.int .i64 id) (.int .i64 (-1)) (.agg XS.toArray) (.bool hb) (.agg X1.toArray) rfl rfl rfl rfl KS) hHeld ?_;simp only[Act.put,getElem_toArray,getElem_cons_zero,getElem_cons_succ,setIfInBounds_toArray,set_cons_zero,set_cons_succ];refine rd 8 (λK hK=> ?_)
    try rw[if_pos (by rfl)]
    refine wp_store_mid 205 (.tmp 8) (.tmp 26) rfl a8 0 X1.toArray rfl rfl (zae K8 (by rw[size_toArray,Kc.len];exact Nat.le_refl 15)) Kc.sizea Kc.onea ?_;have KC:Hid (Bw w (vS.setCells a8 0 X1)):=kA (zab X1 Hb h8);refine hK.out _ _ (HS _ KC) (λhHeld=> ?_);clear hK K;refine wpAnyH_done oM ?_ _;clear hHeld;exact HK _ a8 a4 KC (zal K8 (by rw[Kc.len];rfl)) h8
  ·skip
   have h8:w.heap.size<=y7.heap.size:=Hb.size;go_simp;refine hK.out _ _ (HS _ (zag Hb _)) (λhHeld=> ?_);clear hK K hHeld;refine fin (λW=>Bw w W/\Blk W y7.heap.size 205 (cNd n0d).toArray/\Row W (some ⟨a4,0,none⟩) 1 [4]) ⟨zag Hb _,Blk.new _ _ _,zar R4 (zaa _ _)⟩ ?_;clear Hb;clear R4;obtain⟨a8,H8⟩:∃n,n=y7.heap.size:=⟨_,rfl⟩;rw[<-H8]at h8 ⊢;clear H8;rintro sw ⟨Hu,k8,r4⟩;have Hb:=kA Hu;have K8:=kA k8;have R4:=kA r4;clear Hu k8 r4;have hHeld:=HS.out _ Hb;refine rd 1 (λK hK=> ?_);go_simp
   go_at_call 194
   refine (H1 _).mono ?_;rintro e DX ⟨rfl,b1⟩;go_wp2_with fail;refine hK.out _ _ (HS _ (zad Hb b1)) (λhHeld=> ?_);clear hK K hHeld;refine fin (λW=>Bw w W/\Blk W a8 205 (cNd n0d).toArray/\Row W (some ⟨a4,0,none⟩) 1 [4]) ⟨zad Hb b1,K8.keep b1,zar R4 b1⟩ ?_;clear Hb;clear K8;clear R4;rintro Ev ⟨Hu,k8,r4⟩;have Hb:=kA Hu;have K8:=kA k8;have R4:=kA r4;clear Hu k8 r4;have hHeld:=HS.out _ Hb;clear b1;refine rd 5 (λK hK=> ?_);go_simp
   go_at_call 195
   refine (H5 _ _ R4).mono ?_;rintro e Gu ⟨rfl,rfl⟩;go_wp2_with fail;refine hK.out _ _ (HS _ Hb) (λhHeld=> ?_);clear hK K;refine wpAnyH_take (i:=6) (v:= .agg X1.toArray) rfl oM oM oM (λc a w h=>hQ c a _ _ w h) (za8 (by rfl) 205 (.tmp 20) (.const (.int .i64 (-1))) (.tmp 21) (.tmp 25) rfl (.int .i64 id) (.int .i64 (-1)) (.agg XS.toArray) (.bool hb) (.agg X1.toArray) rfl rfl rfl rfl KS) hHeld ?_;simp only[Act.put,getElem_toArray,getElem_cons_zero,getElem_cons_succ,setIfInBounds_toArray,set_cons_zero,set_cons_succ];refine rd 8 (λK hK=> ?_)
   try rw[if_pos (by rfl)]
   refine wp_store_mid 205 (.tmp 8) (.tmp 26) rfl a8 0 X1.toArray rfl rfl (zae K8 (by rw[size_toArray,Kc.len];exact Nat.le_refl 15)) Kc.sizea Kc.onea ?_;have KC:Hid (Bw w (Ev.setCells a8 0 X1)):=kA (zab X1 Hb h8);refine hK.out _ _ (HS _ KC) (λhHeld=> ?_);clear hK K;refine wpAnyH_done oM ?_ _;clear hHeld;exact HK _ a8 a4 KC (zal K8 (by rw[Kc.len];rfl)) h8
 ·skip
  have h8:w.heap.size<=y0.heap.size:=Hb.size;go_simp;refine hK.out _ _ (HS _ (zag Hb _)) (λhHeld=> ?_);clear hK K hHeld;refine fin (λW=>Bw w W/\Blk W y0.heap.size 205 (cNd n0d).toArray) ⟨zag Hb _,Blk.new _ _ _⟩ ?_;clear Hb;obtain⟨a8,H8⟩:∃n,n=y0.heap.size:=⟨_,rfl⟩;rw[<-H8]at h8 ⊢;clear H8;rintro y13 ⟨Hu,k8⟩;have Hb:=kA Hu;have K8:=kA k8;clear Hu k8;have hHeld:=HS.out _ Hb;refine wpAnyH_ready (rs:=[1,4]) oM (by simp) ?_;refine AllReadyH.cons rfl (λK hK=> ?_) (AllReadyH.cons rfl (λK hK=> ?_) AllReadyH.nil)
  ·skip
   go_simp
   go_at_call 194
   refine (H1 _).mono ?_;rintro e x13 ⟨rfl,b1⟩;go_wp2_with fail;refine hK.out _ _ (HS _ (zad Hb b1)) (λhHeld=> ?_);clear hK K hHeld;refine fin (λW=>Bw w W/\Blk W a8 205 (cNd n0d).toArray) ⟨zad Hb b1,K8.keep b1⟩ ?_;clear Hb;clear K8;rintro NM ⟨Hu,k8⟩;have Hb:=kA Hu;have K8:=kA k8;clear Hu k8;have hHeld:=HS.out _ Hb;clear b1;refine rd 4 (λK hK=> ?_);go_simp;refine hK.out _ _ (HS _ (zag Hb _)) (λhHeld=> ?_);clear hK K hHeld;refine fin (λW=>Bw w W/\Blk W a8 205 (cNd n0d).toArray/\Row W (some ⟨NM.heap.size,0,none⟩) 1 [4]) ⟨zag Hb _,K8.keep (zaa _ _),zn4 _ _ _⟩ ?_;clear Hb;clear K8;obtain⟨a4,H8⟩:∃n,n=NM.heap.size:=⟨_,rfl⟩;rw[<-H8];clear H8;rintro Ew ⟨Hu,k8,r4⟩;have Hb:=kA Hu;have K8:=kA k8;have R4:=kA r4;clear Hu k8 r4;have hHeld:=HS.out _ Hb;refine rd 5 (λK hK=> ?_);go_simp
   go_at_call 195
   refine (H5 _ _ R4).mono ?_;rintro e Gv ⟨rfl,rfl⟩;go_wp2_with fail;refine hK.out _ _ (HS _ Hb) (λhHeld=> ?_);clear hK K;refine wpAnyH_take (i:=6) (v:= .agg X1.toArray) rfl oM oM oM (λc a w h=>hQ c a _ _ w h) (za8 (by rfl) 205 (.tmp 20) (.const (.int .i64 (-1))) (.tmp 21) (.tmp 25) rfl (.int .i64 id) (.int .i64 (-1)) (.agg XS.toArray) (.bool hb) (.agg X1.toArray) rfl rfl rfl rfl KS) hHeld ?_;simp only[Act.put,getElem_toArray,getElem_cons_zero,getElem_cons_succ,setIfInBounds_toArray,set_cons_zero,set_cons_succ];refine rd 8 (λK hK=> ?_)
   try rw[if_pos (by rfl)]
   refine wp_store_mid 205 (.tmp 8) (.tmp 26) rfl a8 0 X1.toArray rfl rfl (zae K8 (by rw[size_toArray,Kc.len];exact Nat.le_refl 15)) Kc.sizea Kc.onea ?_;have KC:Hid (Bw w (Ew.setCells a8 0 X1)):=kA (zab X1 Hb h8);refine hK.out _ _ (HS _ KC) (λhHeld=> ?_);clear hK K;refine wpAnyH_done oM ?_ _;clear hHeld;exact HK _ a8 a4 KC (zal K8 (by rw[Kc.len];rfl)) h8
  ·skip
   go_simp;refine hK.out _ _ (HS _ (zag Hb _)) (λhHeld=> ?_);clear hK K hHeld;refine fin (λW=>Bw w W/\Blk W a8 205 (cNd n0d).toArray/\Row W (some ⟨y13.heap.size,0,none⟩) 1 [4]) ⟨zag Hb _,K8.keep (zaa _ _),zn4 _ _ _⟩ ?_;clear Hb;clear K8;obtain⟨a4,H8⟩:∃n,n=y13.heap.size:=⟨_,rfl⟩;rw[<-H8];clear H8;rintro Gw ⟨Hu,k8,r4⟩;have Hb:=kA Hu;have K8:=kA k8;have R4:=kA r4;clear Hu k8 r4;have hHeld:=HS.out _ Hb;refine rd 1 (λK hK=> ?_);go_simp
   go_at_call 194
   refine (H1 _).mono ?_;rintro e Gx ⟨rfl,b1⟩;go_wp2_with fail;refine hK.out _ _ (HS _ (zad Hb b1)) (λhHeld=> ?_);clear hK K hHeld;refine fin (λW=>Bw w W/\Blk W a8 205 (cNd n0d).toArray/\Row W (some ⟨a4,0,none⟩) 1 [4]) ⟨zad Hb b1,K8.keep b1,zar R4 b1⟩ ?_;clear Hb;clear K8;clear R4;rintro Ex ⟨Hu,k8,r4⟩;have Hb:=kA Hu;have K8:=kA k8;have R4:=kA r4;clear Hu k8 r4;have hHeld:=HS.out _ Hb;clear b1;refine rd 5 (λK hK=> ?_);go_simp
   go_at_call 195
   refine (H5 _ _ R4).mono ?_;rintro e Gy ⟨rfl,rfl⟩;go_wp2_with fail;refine hK.out _ _ (HS _ Hb) (λhHeld=> ?_);clear hK K;refine wpAnyH_take (i:=6) (v:= .agg X1.toArray) rfl oM oM oM (λc a w h=>hQ c a _ _ w h) (za8 (by rfl) 205 (.tmp 20) (.const (.int .i64 (-1))) (.tmp 21) (.tmp 25) rfl (.int .i64 id) (.int .i64 (-1)) (.agg XS.toArray) (.bool hb) (.agg X1.toArray) rfl rfl rfl rfl KS) hHeld ?_;simp only[Act.put,getElem_toArray,getElem_cons_zero,getElem_cons_succ,setIfInBounds_toArray,set_cons_zero,set_cons_succ];refine rd 8 (λK hK=> ?_)
   try rw[if_pos (by rfl)]
   refine wp_store_mid 205 (.tmp 8) (.tmp 26) rfl a8 0 X1.toArray rfl rfl (zae K8 (by rw[size_toArray,Kc.len];exact Nat.le_refl 15)) Kc.sizea Kc.onea ?_;have KC:Hid (Bw w (Ex.setCells a8 0 X1)):=kA (zab X1 Hb h8);refine hK.out _ _ (HS _ KC) (λhHeld=> ?_);clear hK K;refine wpAnyH_done oM ?_ _;clear hHeld;exact HK _ a8 a4 KC (zal K8 (by rw[Kc.len];rfl)) h8
section
variable {SB:World->Nat->(Nat->Prop)->St->Prop} {FB:World->Nat->(Nat->Prop)->FT->Prop}
theorem zo0(hC:SCx SB)(hF:FCx FB){w:World}{g:Nat}{F:Nat->Prop}{X:Sc}(h0:LXB SB FB w g F X)(hW:WX X)(hB:BSc X 900):
  Calls prog 44 #[.pointer (some ⟨g,0,none⟩)] w λe w'=>∃v,e= .returned v/\LRes w w' (alS X.S) v/\Bw w w':=by
 have kS:=hC.kb;have kF:=hF.kb;obtain⟨gs,gf,h⟩:=h0.open_;obtain⟨c0,c1,hg⟩:=h.reads;have kG:=kA (zcC c0);obtain⟨Fs,Ki,_,hS⟩:=h.withS kS kF;have di:=kA (hC.all w gs Fs X.S hW.ws (hB.bd.mono om) (hS w (Below.refl _ _)).1);obtain⟨L,hL⟩:∃L,L=alS X.S:=⟨_,rfl⟩;rw[<-hL]at di ⊢;clear hL h0 hW hB hC hF kS kF h Ki hS;go_enter func44,ntmps44;go_wp2_with fail;refine kG.mono ?_;rintro e w1 ⟨rfl,rfl⟩;go_wp2_with fail;refine di.mono ?_;rintro e w1 ⟨v,rfl,⟨a,cap,rfl,lr,ln⟩,b1⟩;have HR:Hid (LRes w w1 L (.slice a L.length cap)/\Bw w w1):=kA ⟨⟨a,cap,rfl,lr,ln⟩,b1⟩;clear lr ln b1 di kG c0 c1 hg;go_wp2;go_ret;exact⟨_,rfl,HR.1,HR.2⟩
theorem zhK(hC:SCx SB)(hF:FCx FB){w:World}{g:Nat}{F:Nat->Prop}{X:Sc}(h0:LXB SB FB w g F X)(hW:WX X)(hB:BSc X 900)(since:Int):
  Calls prog 127 #[.pointer (some ⟨g,0,none⟩),.int .i64 since] w λe w'=>∃v,e= .returned v/\LRes w w' (chL X.S since) v/\Bw w w':=by
 have kS:=hC.kb;have kF:=hF.kb;obtain⟨gs,gf,h⟩:=h0.open_;obtain⟨c0,c1,hg⟩:=h.reads;have kG:=kA (zcC c0);obtain⟨Fs,Ki,_,hS⟩:=h.withS kS kF;have di:=kA (hC.changed w gs Fs X.S since hW.ws (hB.bd.mono om) (hS w (Below.refl _ _)).1);obtain⟨L,hL⟩:∃L,L=chL X.S since:=⟨_,rfl⟩;rw[<-hL]at di ⊢;clear hL h0 hW hB hC hF kS kF h Ki hS;go_enter func127,ntmps127;go_wp2_with fail;refine kG.mono ?_;rintro e w1 ⟨rfl,rfl⟩;go_wp2_with fail;refine di.mono ?_;rintro e w1 ⟨v,rfl,⟨a,cap,rfl,lr,ln⟩,b1⟩;have HR:Hid (LRes w w1 L (.slice a L.length cap)/\Bw w w1):=kA ⟨⟨a,cap,rfl,lr,ln⟩,b1⟩;clear lr ln b1 di kG c0 c1 hg;go_wp2;go_ret;exact⟨_,rfl,HR.1,HR.2⟩
theorem zmi(hC:SCx SB)(hF:FCx FB){w:World}{g:Nat}{F:Nat->Prop}{X:Sc}(h0:LXB SB FB w g F X)(hW:WX X)(hB:BSc X 900)(since:Int):
  Calls prog 68 #[.pointer (some ⟨g,0,none⟩),.int .i64 since] w λe w'=>∃v,e= .returned v/\LRes w w' (goL X.S since) v/\Bw w w':=by
 have kS:=hC.kb;have kF:=hF.kb;obtain⟨gs,gf,h⟩:=h0.open_;obtain⟨c0,c1,hg⟩:=h.reads;have kG:=kA (zcC c0);obtain⟨Fs,Ki,_,hS⟩:=h.withS kS kF;have di:=kA (hC.gone w gs Fs X.S since hW.ws (hB.bd.mono om) (hS w (Below.refl _ _)).1);obtain⟨L,hL⟩:∃L,L=goL X.S since:=⟨_,rfl⟩;rw[<-hL]at di ⊢;clear hL h0 hW hB hC hF kS kF h Ki hS;go_enter func68,ntmps68;go_wp2_with fail;refine kG.mono ?_;rintro e w1 ⟨rfl,rfl⟩;go_wp2_with fail;refine di.mono ?_;rintro e w1 ⟨v,rfl,⟨a,cap,rfl,lr,ln⟩,b1⟩;have HR:Hid (LRes w w1 L (.slice a L.length cap)/\Bw w w1):=kA ⟨⟨a,cap,rfl,lr,ln⟩,b1⟩;clear lr ln b1 di kG c0 c1 hg;go_wp2;go_ret;exact⟨_,rfl,HR.1,HR.2⟩
theorem zmj(hC:SCx SB)(hF:FCx FB){w:World}{g:Nat}{F:Nat->Prop}{X:Sc}(h0:LXB SB FB w g F X)(hW:WX X)(hB:BSc X 900):
  Calls prog 16 #[.pointer (some ⟨g,0,none⟩)] w λe w'=>e= .returned (.int .i64 X.S.now)/\Bw w w':=by
 have kS:=hC.kb;have kF:=hF.kb;obtain⟨gs,gf,h⟩:=h0.open_;obtain⟨c0,c1,hg⟩:=h.reads;have kG:=kA (zcC c0);obtain⟨Fs,Ki,_,hS⟩:=h.withS kS kF;have di:=kA (hC.tick w gs Fs X.S hW.ws (hB.bd.mono om) (hS w (Below.refl _ _)).1);obtain⟨nw,cT⟩:∃nw,nw=X.S.now:=⟨_,rfl⟩;rw[<-cT]at di ⊢;clear cT h0 hW hB hC hF kS kF h Ki hS;go_enter func16,ntmps16;go_wp2_with fail;refine kG.mono ?_;rintro e w1 ⟨rfl,rfl⟩;go_wp2_with fail;refine di.mono ?_;rintro e w1 ⟨rfl,b1⟩;have HB:=kA b1;clear b1 di kG c0 c1 hg;go_wp2;go_ret;exact⟨rfl,HB⟩
theorem zmk(hC:SCx SB)(hF:FCx FB){w:World}{g:Nat}{F:Nat->Prop}{X:Sc}(h0:LXB SB FB w g F X)(hW:WX X)(hB:BSc X 900):
  Calls prog 33 #[.pointer (some ⟨g,0,none⟩)] w λe w'=>e= .returned (.int .i64 (X.S.now+1))/\ChB (LXB SB FB) w w' g F (zdG X):=by
 have kS:=hC.kb;have kF:=hF.kb;obtain⟨gs,gf,h⟩:=h0.open_;obtain⟨c0,c1,hg⟩:=h.reads;have kG:=kA (zcC c0);obtain⟨Fs,Ki,_,hS⟩:=h.withS kS kF;have di:=kA (hC.next w gs Fs X.S hW.ws (hB.bd.mono om) (hS w (Below.refl _ _)).1);have HD:Hid (∀w',Chg SB w w' gs Fs (neS X.S)->ChB (LXB SB FB) w w' g F (zdG X)):=kA (λw' q=>((hS w (Below.refl _ _)).2 _ _ q).done);obtain⟨nw,cT⟩:∃nw,nw=X.S.now:=⟨_,rfl⟩;rw[<-cT]at di ⊢;clear cT h0 hW hB hC hF kS kF h Ki hS;go_enter func33,ntmps33;go_wp2_with fail;refine kG.mono ?_;rintro e w1 ⟨rfl,rfl⟩;go_wp2_with fail;refine di.mono ?_;rintro e w1 ⟨rfl,hc⟩;have HB:=kA (HD _ hc);clear hc di kG c0 c1 hg HD;go_wp2;go_ret;exact⟨rfl,HB⟩
theorem zo1(hC:SCx SB)(hF:FCx FB){w:World}{g:Nat}{F:Nat->Prop}{X:Sc}(h0:LXB SB FB w g F X)(hW:WX X)(hB:BSc X 900)(id:Int)(a:Option Addr)(n cap:Nat)(ks:List Int)(hn:n<=900)(row:Row w a n ks)(Kj:Aw F a n):
  Calls prog 48 #[.pointer (some ⟨g,0,none⟩),.int .i64 id,.slice a n cap] w λe w'=>e= .returned (.int .i64 (cuE X.S id ks))/\ChB (LXB SB FB) w w' g F (zoJ X id ks):=by
 have kS:=hC.kb;have kF:=hF.kb;obtain⟨gs,gf,h⟩:=h0.open_;obtain⟨c0,c1,hg⟩:=h.reads;have kG:=kA (zcC c0);obtain⟨Fs,Ki,xX,hS⟩:=h.withS kS kF;have di:=kA (hC.cut w gs Fs X.S id a n cap ks hW.ws (hB.bd.mono om) (hS w (Below.refl _ _)).1 om row (zvf Kj row (Nat.le_refl _) xX));have HD:Hid (∀w',Chg SB w w' gs Fs (cuS X.S id ks)->ChB (LXB SB FB) w w' g F (zoJ X id ks)):=kA (λw' q=>((hS w (Below.refl _ _)).2 _ _ q).done);obtain⟨E,hE⟩:∃E,E=cuE X.S id ks:=⟨_,rfl⟩;rw[<-hE]at di ⊢;clear hE h0 hW hB hC hF kS kF h Ki xX hS row Kj;go_enter func48,ntmps48;go_wp2_with fail;refine kG.mono ?_;rintro e w1 ⟨rfl,rfl⟩;go_wp2_with fail;refine di.mono ?_;rintro e w1 ⟨rfl,hc⟩;have HB:=kA (HD _ hc);clear hc di kG c0 c1 hg HD;go_wp2;go_ret;exact⟨rfl,HB⟩
theorem zo2(hC:SCx SB)(hF:FCx FB){w:World}{g:Nat}{F:Nat->Prop}{X:Sc}(h0:LXB SB FB w g F X)(hW:WX X)(hB:BSc X 900)(id:Int)(P:PT)(a:Option Addr)(n cap:Nat)(ks:List Int)(hn:n<=900)(row:Row w a n ks)(Kj:Aw F a n):
  Calls prog 47 #[.pointer (some ⟨g,0,none⟩),.int .i64 id,.agg (pl P).toArray,.slice a n cap] w λe w'=>e= .returned (.int .i64 (puE X.S id P ks))/\ChB (LXB SB FB) w w' g F (znq X id P ks):=by
 have kS:=hC.kb;have kF:=hF.kb;obtain⟨gs,gf,h⟩:=h0.open_;have kG:Hid (∀u,Bw w u->Calls prog 42 #[.pointer (some ⟨g,0,none⟩)] u λe w'=>e= .returned (.pointer (some ⟨gs,0,none⟩))/\u=w'):=kA (λu q=>zcC (h.keep kS kF q).reads.1);obtain⟨Fs,Ki,xX,hS⟩:=h.withS kS kF
 have xY:Hid (∀u,Bw w u->w.heap.size<u.heap.size->Calls prog 93 #[.pointer (some ⟨gs,0,none⟩),.int .i64 id,.agg (pl P).toArray,.slice a n cap] u λe w'=>e= .returned (.int .i64 (puE X.S id P ks))/\ChB (LXB SB FB) w w' g F (znq X id P ks)/\w'.heap[w.heap.size]? =u.heap[w.heap.size]?):=kA (λu q c=>(hC.put u gs Fs X.S id P a n cap ks hW.ws (hB.bd.mono om) (hS u q).1 om (zar row q) (zvf Kj row (Nat.le_refl _) xX)).mono λe w' k=>⟨k.1,((hS u q).2 _ _ k.2).done,by
  obtain⟨_,_,f,_⟩:=k.2
  exact f.2.2.2.2 _ c (λz=>by have:=Ki _ z;omega)⟩)
 have Ha:=kA (zaJ P);have hg:g<w.heap.size:=h.reads.2.2;obtain⟨E,hE⟩:∃E,E=puE X.S id P ks:=⟨_,rfl⟩;rw[<-hE]at xY ⊢;obtain⟨Xp,H7⟩:∃Xp,Xp=pl P:=⟨_,rfl⟩;rw[<-H7]at xY Ha ⊢;have KP:=kA (Blk.new w 52 Xp.toArray);have Hg:Hid (Bw w (w.alloc (.cells Xp.toArray 52))):=kA (zaa _ _);clear H7 hE h0 hW hB hC hF kS kF h Ki xX hS row Kj;go_enter func47,ntmps47;go_upto_region 1 with fail;refine fin (λW=>W.rangeAt w.heap.size 0 Xp/\Bw w W/\w.heap.size<W.heap.size) ⟨zac KP,Hg.out,KP.lt⟩ ?_;clear KP Hg;rintro W0 ⟨r0,Hu,zb⟩;have Hg:=kA Hu;have dM:=kA r0;clear Hu;refine wp_region_held_drew (S:=λw'=>w'.rangeAt w.heap.size 0 Xp) oM (r0) (λhHeld=> ?_);refine tk 0 hHeld ?_;refine tk 2 hHeld ?_;refine tkl 3 rfl (yieldsIf_load_mid (by rfl) _ _ rfl _ _ rfl _ _ (λ_ h=>h) underlying52 rfl Ha) hHeld ?_;refine tk 4 hHeld ?_;refine rd 1 (λK hK=> ?_);go_simp
 go_at_call 42
 refine (kG _ (zad Hg (zbi _))).mono ?_;rintro e w2 ⟨rfl,rfl⟩;go_wp2_with fail;refine hK.out _ _ (r0) (λhHeld=> ?_);clear hK K;refine rd 5 (λK hK=> ?_);go_simp
 go_at_call 93
 refine (xY _ (zad Hg (zbi _)) zb).mono ?_;rintro e w3 ⟨rfl,Cg,C3⟩;have HP:=kA Cg;have cA:=kA (zaF dM C3);clear C3 Cg;go_wp2_with fail;refine hK.out _ _ (cA.out) (λhHeld=> ?_);clear hK K;refine tk 6 hHeld ?_;refine wpAnyH_done oM ?_ _;clear hHeld r0 zb xY kG dM cA;go_wp2;go_ret;exact⟨rfl,HP⟩
theorem zik(hC:SCx SB)(hF:FCx FB){w:World}{g:Nat}{F:Nat->Prop}{X:Sc}(h0:LXB SB FB w g F X)(hW:WX X)(hB:BSc X 900)(id:Int):
  Calls prog 136 #[.pointer (some ⟨g,0,none⟩),.int .i64 id] w λe w'=>∃Y,e= .returned (.tuple #[.agg (toArray Y),.bool (zcE X.S id)])/\Y=pl (zby X.S id)/\Bw w w':=by
 have kS:=hC.kb;have kF:=hF.kb;obtain⟨gs,gf,h⟩:=h0.open_;have kG:Hid (∀u,Bw w u->Calls prog 42 #[.pointer (some ⟨g,0,none⟩)] u λe w'=>e= .returned (.pointer (some ⟨gs,0,none⟩))/\u=w'):=kA (λu q=>zcC (h.keep kS kF q).reads.1);obtain⟨Fs,Ki,xX,hS⟩:=h.withS kS kF;obtain⟨ok,Hp⟩:∃ok,ok=zcE X.S id:=⟨_,rfl⟩;obtain⟨Xp,H7⟩:∃Xp,Xp=pl (zby X.S id):=⟨_,rfl⟩;have Jj:Hid (∀u,Bw w u->Calls prog 213 #[.pointer (some ⟨gs,0,none⟩),.int .i64 id] u λe w'=>e= .returned (.tuple #[.agg Xp.toArray,.bool ok])/\Bw u w'):=kA (λu q=>(hC.get u gs Fs X.S id hW.ws (hB.bd.mono om) (hS u q).1).mono λe w' ⟨Y,k1,k2,k3⟩=>⟨by rw[k1,k2,H7,Hp],k3⟩);have kD:Hid (PXs Xp):=kA (by rw[H7];exact⟨zcv _,zaJ _,zbL _,zc8 _⟩);have hg:g<w.heap.size:=h.reads.2.2;have K4:=kA (Blk.new w 52 Z24.toArray);have Kh:Hid (Bw w (w.alloc (.cells Z24.toArray 52))):=kA (zaa _ _);rw[<-Hp,<-H7];clear Hp H7 h0 hW hB hC hF kS kF h Ki xX hS;go_enter func136,ntmps136;go_wp2_with fail;refine (kG _ Kh).mono ?_;rintro e w1 ⟨rfl,rfl⟩;go_wp2_with fail;refine (Jj _ Kh).mono ?_;rintro e w1 ⟨rfl,b1⟩;replace K4:=kA (K4.keep b1);replace Kh:=kA (zad Kh b1);have Kv:Hid (w1.there w.heap.size 0 Xp.toArray.size):=kA (zae K4 (by rw[size_toArray,kD.1];exact Nat.le_refl 24));have L4:Hid (Blk (w1.setCells w.heap.size 0 Xp) w.heap.size 52 Xp.toArray):=kA (zal K4 (by rw[kD.1];rfl));clear b1 Jj kG;go_wp2_with (refine wpList_store_mid rfl 52 (.tmp 4) (.tmp 10) rfl w.heap.size 0 Xp.toArray rfl rfl Kv kD.2.2.1 kD.2.2.2 ?_);refine fin (λW=>Blk W w.heap.size 52 Xp.toArray/\Bw w W) ⟨L4,zab _ Kh (Nat.le_refl _)⟩ ?_;rintro W ⟨kr,hb⟩;have hl:=run_loadVar_mid W w.heap.size 0 52 Xp _ (zac kr) underlying52 rfl kD.2.1
 try simp only[Go.Act.put,setIfInBounds_toArray,set_cons_zero,set_cons_succ]
 exact bodyPost_ret (v:= .tuple #[.agg Xp.toArray,.bool ok]) (zam results136 rfl rfl hl) rfl ⟨Xp,rfl,rfl,hb⟩
theorem zfd(hC:SCx SB)(hF:FCx FB){w:World}{g:Nat}{F:Nat->Prop}{X:Sc}(h0:LXB SB FB w g F X)(hW:WX X)(hB:BSc X 900)(id:Int)(hid:Rg id):
  Calls prog 196 #[.pointer (some ⟨g,0,none⟩),.int .i64 id] w λe w'=>e= .returned (.tuple #[.int .i64 (zjy (zak X.L id)),.bool (zak X.L id).isSome])/\Bw w w':=by
 have kS:=hC.kb;have kF:=hF.kb;obtain⟨gs,gf,h⟩:=h0.open_;obtain⟨c0,c1,hg⟩:=h.reads;obtain⟨Ff,Ki,xX,xp⟩:=h.withF kS kF;have YQ:X.L.length<=900:=hB.len;have cY:=kA (hF.parent w gf Ff X.L id hW.wf (show X.L.length<=1000 by omega) (xp w (Below.refl _ _)).1 hid);obtain⟨pv,Yz⟩:∃pv,pv=zjy (zak X.L id):=⟨_,rfl⟩;obtain⟨is,Qx⟩:∃is,is=(zak X.L id).isSome:=⟨_,rfl⟩;rw[<-Yz,<-Qx]at cY ⊢;clear Yz Qx h0 hW hB hC hF kS kF h Ki xX xp hid YQ;go_enter func196,ntmps196;go_wp2_with fail;refine cY.mono ?_;rintro e w1 ⟨rfl,b1⟩;have HB:=kA b1;clear b1 cY c0 c1 hg;go_wp2;go_ret2;exact⟨rfl,HB⟩
end
end Go.Proofs.YtlibdcmcbinfnaaGreat
