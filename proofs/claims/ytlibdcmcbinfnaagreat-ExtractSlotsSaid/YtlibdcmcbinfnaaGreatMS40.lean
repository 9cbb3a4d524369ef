/- Lemmas. -/
import Derived.Test.YtlibdcmcbinfnaaGreatMS39
import Derived.Lib.AppendZerosOnto
set_option maxHeartbeats 100000000
set_option maxRecDepth 1000000
namespace Go.Proofs.YtlibdcmcbinfnaaGreat
open _root_.Go.Proofs.Tryz List Nat
open Go.RowKit
structure St13 (EB:World->Nat->(Nat->Prop)->XS->Prop) (XB:World->Nat->(Nat->Prop)->Sc->Prop) (w0 W:World) (g gs:Nat) (F Fs:Nat->Prop) (E:XS) (X:Sc) (m k:Nat):Prop where
 du:Du EB XB w0 W g gs F Fs E X
 sx:SX3 X
 ek:EOk X E
 bs:BSc X m
 eb:EBd E k
 lo:∀p∈E.S,p.2<12
 rm:X.S.room=12
variable{E:XS}{a:Option Addr}{n:Nat}{w w0:World}
section
variable {EB:World->Nat->(Nat->Prop)->XS->Prop} {XB:World->Nat->(Nat->Prop)->Sc->Prop} {w0 W W':World} {g gs:Nat} {F Fs:Nat->Prop} {E:XS} {X:Sc} {m k:Nat}
theorem St13.keep(kE:KB EB)(kX:KB XB)(h:St13 EB XB w0 W g gs F Fs E X m k)(hb:Bw W W'):St13 EB XB w0 W' g gs F Fs E X m k:=⟨h.du.keep kE kX hb,h.sx,h.ek,h.bs,h.eb,h.lo,h.rm⟩
theorem St13.mono(h:St13 EB XB w0 W g gs F Fs E X m k){m' k':Nat}(h1:m<=m')(h2:k<=k'):St13 EB XB w0 W g gs F Fs E X m' k':=⟨h.du,h.sx,h.ek,h.bs.mono h1,h.eb.mono h2,h.lo,h.rm⟩
theorem St13.act(hX:XC XB)(kE:KB EB)(h:St13 EB XB w0 W g gs F Fs E X m k)(hm:m<=240){x:A11}(H8:ok11 w0 x)(hn:x.n<=40):
  Calls prog 18 #[.pointer (some ⟨gs,0,none⟩),.agg (c11 x).toArray] W λe w'=>(∃v,e= .returned v)/\∃Sp,St13 EB XB w0 w' g gs F Sp E (doX X x) (m+2) k:=by
 refine (zuw hX h.du.xb h.sx.wx (h.bs.mono om) x (H8.keep h.du.be) (zAc H8.2.2.2.2.2.2 h.du.f1) om).mono ?_;rintro e w' ⟨rfl,hc⟩;obtain⟨Sp,k1,-,-⟩:=h.du.sc kE hc;exact⟨⟨_,rfl⟩,Sp,k1,h.sx.does x,h.ek.does x,h.bs.does h.sx.wx x,h.eb,h.lo,(zrH X x).trans h.rm⟩
theorem St13.sync(hE:EC EB XB)(h:St13 EB XB w0 W g gs F Fs E X m k)(hm:m<=240)(hk:k<=90):
  Calls prog 13 #[.pointer (some ⟨g,0,none⟩),.pointer (some ⟨gs,0,none⟩)] W λe w'=>∃a n cap zs er E' F' Sp,e= .returned (.tuple #[.slice a n cap,.int .i64 er])/\n=zs.length/\Row w' a n zs/\Synced X E zs er E'/\St13 EB XB w0 w' g gs F' Sp E' (zfY X) (m+2) (k+1)/\(∀b,F' b->F b∨W.heap.size<=b)/\(∀b,Sp b->Fs b∨W.heap.size<=b)/\Fr W w' (λb=>F b∨Fs b)/\(n=0∨∀ad,a=some ad->W.heap.size<=ad.block):=by
 refine (zsd hE h.du h.sx h.ek (h.bs.mono om) (h.eb.mono om) (λp hp=>by have:=h.lo p hp;omega) (by have:=h.rm;omega)).mono ?_;rintro e w' ⟨a,n,cap,zs,er,E',F',Sp,rfl,hn,row,hs,k1,k2,k3,k4,k5⟩;exact⟨a,n,cap,zs,er,E',F',Sp,rfl,hn,row,hs,⟨k1,h.sx.ne,hs.next h.sx h.ek,h.bs.ne,hs.bd h.sx h.ek (h.bs.mono om) h.eb,hs.below (m:=12) h.sx h.ek h.rm h.lo,h.rm⟩,k2,k3,k4,k5⟩
theorem St13.recs(hE:EC EB XB){Y:Sc}{E:XS}(Mb:EB W g F E)(E7:EOk Y E):Calls prog 20 #[.pointer (some ⟨g,0,none⟩)] W λe w'=>∃a cap,e= .returned (.slice a E.R.length cap)/\zb4 w' a E.R.length E.R/\(∀ad,a=some ad->W.heap.size<=ad.block)/\Bw W w':=by
 have hl:=E7.rlen;refine (hE.records W g F E Mb om).mono ?_;rintro e w' ⟨v,rfl,ho,hb⟩;obtain⟨a,cap,rfl,_,_,row⟩:=ho.row zaC;refine⟨a,cap,rfl,row,λad e=> ?_,hb⟩;subst e;rcases ho.2 with ⟨e2,_⟩ | ⟨g2,cp,cur,e2,Kh,_⟩
 ·injection e2 with e3 _ _;cases e3
 ·injection e2 with e3 _ _;injection e3 with e3;rw[e3];exact Kh
theorem zuH{G:Nat->Prop}{R:List Rc}(row:zb4 W a n R)(h:Fr W W' G)(hG:∀ad,a=some ad->¬G ad.block):zb4 W' a n R:=by
 refine⟨row.1,row.2.1,row.2.2.imp id ?_⟩;rintro⟨b,off,rfl,hb,hr⟩;exact⟨b,off,rfl,Nat.lt_of_lt_of_le hb h.2.2.2.1,λi x hx=>zaP (hr i x hx) (h.2.2.2.2 b hb (hG _ rfl))⟩
end
theorem World.heap_alloc_at13(w:World)(o:Obj):(w.alloc o).heap[w.heap.size]? =some o:=by
 show (w.heap.push o)[w.heap.size]? =some o;exact Array.getElem?_push_size
theorem zse(n:Nat)(w:World)(hn:n<=100000):
  Calls prog 133 #[.slice none 0 0,.int .i64 n] w λe w'=>∃v,e= .returned v/\OwnD w' w.heap.size v 0 []/\Bw w w':=by
 obtain⟨i0,kB,kQ,kR,kH⟩:=info_parts zcr;have h1:¬((n:Int)<0):=om;have h2:IntKind.i64.wrap ((n:Int) - 0)=(n:Int):=by rw[IntKind.wrap_i64];omega
 have h0:IntKind.i64.wrap ((0:Int) - 0)=0:=by rw[IntKind.wrap_i64];omega
 by_cases C4:n=0
 ·subst C4;have hO:Hid (OwnD w w.heap.size (.slice none 0 0) 0 []):=kA (World.ownsRow_nil _ _ _ _);go_enter func133,ntmps133;go_wp2;go_ret;exact⟨_,rfl,hO.out,Below.refl _ _⟩
 ·have YD:i0.bytes=8:=kH;have Kr:i0.size=1:=kR;have hold:(Builtin.firstCells i0.size 0 (.slice none 0 0)).run prog w.drew= .ok ([]:List Value).toArray w.drew:=run_firstCells_none w.drew i0.size 0 0 0;have yS:∀ty,(Builtin.append_ #[35,3] ty #[.slice none 0 0,.int .i64 (n:Int)]).run prog w=
    .ok (.slice (some ⟨w.heap.size,0,none⟩) n (grownCap w n 0 81)) (w.drew.alloc (.cells (([]:List Value).toArray++Builtin.zeroCells (Value.int .i64 0).cells n++Builtin.zeroCells (Value.int .i64 0).cells (grownCap w n 0 81 - n)) 81)):=λty=>by
   have h:=Lib.run_append_grow_zeros w 35 3 ty 81 i0 _ .i64 .i64 underlying35 underlying3 kB kQ none 0 0 [] hold n om om om om (by rw[YD];omega) (by rw[YD];exact growslice_fits om om);rw[Nat.zero_add]at h;exact h
  have ve:n<=grownCap w n 0 81:=grownCap_ge w _ _ _;have Jl:=grownCap_le_maxLen w n 0 81 (by unfold maxLen;omega);obtain⟨G,hG⟩:∃G,G=grownCap w n 0 81:=⟨_,rfl⟩;rw[<-hG]at yS ve Jl;have Z6:G<=9223372036854775807:=by unfold maxLen at Jl;omega
  obtain⟨ROW,Dx⟩:∃ROW:Array Value,ROW=([]:List Value).toArray++Builtin.zeroCells (Value.int .i64 0).cells n++Builtin.zeroCells (Value.int .i64 0).cells (G - n):=⟨_,rfl⟩;have BL:ROW.size=G:=by
   rw[Dx];simp[Builtin.zeroCells,Value.cells];omega
  rw[<-Dx]at yS
  have hO:Hid (OwnD (w.drew.alloc (.cells ROW 81)) w.heap.size (.slice (some ⟨w.heap.size,0,none⟩) 0 G) 0 []/\Bw w (w.drew.alloc (.cells ROW 81))):=kA ⟨by
   refine⟨rfl,.inr ⟨w.heap.size,G,ROW,rfl,Nat.le_refl _,?_,zero_le _,Jl,om,by simp⟩⟩
   exact World.heap_alloc_at13 w.drew _,zag (zaH (Below.refl _ _)) _⟩
  have n0:(0:Int)<(n:Int):=om;clear Dx BL hG Jl kB kQ kR kH hold YD Kr;go_enter func133,ntmps133;go_wp2_with (at_builtin;refine Lib.wpList_append_run _ rfl _ _ _ _ rfl _ _ rfl rfl _ _ (yS _) ?_)
  all_goals (go_ret;exact⟨_,rfl,hO.out.1,hO.out.2⟩)
theorem zo1(b:Nat)(a1 a2:Option Addr)(n1 c1 n2 c2 cap:Nat)(z1 z2:List Int)(w:World)(f1:w.cell? ⟨b,0,none⟩=some (.slice a1 n1 c1))(f2:w.cell? ⟨b,1,none⟩=some (.slice a2 n2 c2))(r1:Row w a1 n1 z1)(r2:Row w a2 n2 z2)(h1:n1<=40000)(h2:n2<=40000):
  Calls prog 73 #[.slice (some ⟨b,0,none⟩) 2 cap] w λe w'=>∃v,e= .returned v/\OwnD w' w.heap.size v (n1+n2) (z1++z2)/\Bw w w':=by
 have Ht:=World.block_lt_of_cell? _ _ f1;have HK:Hid (∀W,Bw w W->W.cell? ⟨b,0,none⟩=some (.slice a1 n1 c1)/\W.cell? ⟨b,1,none⟩=some (.slice a2 n2 c2)/\b<W.heap.size/\Row W a1 n1 z1/\Row W a2 n2 z2):=kA (λW q=>⟨zam f1 q,zam f2 q,Nat.lt_of_lt_of_le Ht q.size,zar r1 q,zar r2 q⟩);have HG:=kA (zse (n1+n2) w om);have s1:IntKind.i64.wrap ((0:Int)+(n1:Int))=((n1:Nat):Int):=by rw[IntKind.wrap_i64];omega
 have s2:IntKind.i64.wrap ((n1:Int)+(n2:Int))=((n1+n2:Nat):Int):=by rw[IntKind.wrap_i64];omega
 have t1:¬((n1:Int)<0):=om;have t2:¬(((n1+n2:Nat):Int)<0):=om;clear r1 r2;go_enter func73,ntmps73;go_wp2;refine wp_loop_rounds 3 ?_;rw[rounds_succ];go_wp2;rw[rounds_succ];go_wp2;rw[rounds_succ];go_wp2_with fail;refine HG.mono ?_;rintro e w1 ⟨v,rfl,ho,hb⟩;obtain⟨f1',f2',Vy,TJ,JJ⟩:=HK.out w1 hb;have HO:=kA ho;have HB:=kA hb;have dP:=kA TJ;clear ho hb TJ JJ HG f1 f2;go_wp2;refine wp_loop_rounds 3 ?_;rw[rounds_succ];go_wp2_with (at_builtin;refine zgL rfl (.tmp 31) (.tmp 32) rfl w.heap.size 0 v [] rfl HO a1 n1 c1 z1 rfl dP om om HB.size ?_);intro v2 w2 k1 k2;have He:Hid (Bw w w2):=kA (zbl HO (Nat.le_refl _) HB k2);obtain⟨f1'',f2'',RO,-,JJ⟩:=HK.out w2 He;have dy:=kA k1;have H7:=kA JJ;clear k1 k2 JJ HB HO dP f1' f2' Vy;go_wp2;rw[rounds_succ];go_wp2_with (at_builtin;refine zgL rfl (.tmp 31) (.tmp 32) rfl w.heap.size n1 v2 z1 rfl dy a2 n2 c2 z2 rfl H7 om om He.size ?_);intro v3 w3 k1 k2;have K:Hid (OwnD w3 w.heap.size v3 (n1+n2) (z1++z2)/\Bw w w3):=kA ⟨k1,zbl dy (Nat.le_refl _) He k2⟩;clear k1 k2 He dy H7 HK;go_wp2;rw[rounds_succ];go_wp2;go_ret;exact⟨v3,rfl,K.1,K.2⟩
theorem zsf:zbs 142:=λ_ _=>oM
theorem zsg(a:Rc)(y:Int)(w:World):Calls prog 142 #[.agg (cRc a).toArray,.int .i64 y] w λe w'=>e= .returned (.int .i64 (zfZ a.id y))/\Bw w w':=by
 have HC:=kA (zrn a.id y);have K0:Hid ((w.alloc (.cells (cRc a).toArray 92)).cell? ⟨w.heap.size,0,none⟩=some (.int .i64 a.id)):=kA ((Blk.new w 92 (cRc a).toArray).cell 0);have HB:Hid (Bw w (w.alloc (.cells (cRc a).toArray 92))):=kA (zaa _ _);obtain⟨A,hA⟩:∃A,A=(cRc a).toArray:=⟨_,rfl⟩;rw[<-hA]at K0 HB ⊢;clear hA;go_enter func142,ntmps142;go_upto_region 1 with fail;refine fin (λW=>W.cell? ⟨w.heap.size,0,none⟩=some (.int .i64 a.id)/\Bw w W) ⟨K0,HB⟩ ?_;rintro W ⟨c0,hb⟩;have Hk:=kA hb;clear hb HB K0;go_wp2_with fail;refine (HC _).mono ?_;rintro e w1 ⟨rfl,rfl⟩;go_wp2;go_ret;exact⟨rfl,Hk⟩
theorem zo2{a b:Int}:(zfZ a b=0)↔a=b:=by
 unfold zfZ
 by_cases h:a<b
 ·rw[if_pos h];constructor <;> intro q <;> omega
 ·rw[if_neg h]
  by_cases h2:b<a
  ·rw[if_pos h2];constructor <;> intro q <;> omega
  ·rw[if_neg h2];constructor <;> intro q <;> omega
theorem zxD(av:Option Addr)(n cap:Nat)(X:List Rc)(y:Int)(w:World)(row:zb4 w av n X)(hR:zdp X)(hn:n<=100000):
  Calls prog 141 #[.slice av n cap,.int .i64 y,.func (.func 142) #[] #[]] w λe w'=>∃i:Int,e= .returned (.tuple #[.int .i64 i,.bool (decide (y∈X.map Rc.id))])/\Bw w w':=by
 have kG:=kA row.1;have hJ:=kA row;have dM:=kA hR;have hE:=zsf;unfold zbs at hE;clear row hR;go_enter func141,ntmps141;go_wp2
 go_loopw [9,10,11] (λv9 JK _ wr=>∃lo hi:Nat,v9= .int .i64 lo/\JK= .int .i64 hi/\lo<=hi/\hi<=n/\(∀t x,X[t]? =some x->t<lo->x.id<y)/\(∀t x,X[t]? =some x->hi<=t->y<=x.id)/\Bw w wr) (λv9 JK _ _=>(ivl JK).toNat - (ivl v9).toNat)
 case atStart=>exact⟨0,n,rfl,rfl,om,om,λt x _ h=>om,λt x h q=>by have:=(List.getElem?_eq_some_iff.1 h).1;have:=kG.out;omega,Below.refl _ _⟩
 case round=>
  obtain⟨lo,hi,rfl,rfl,NN,hin,h1,h2,hb⟩:=hrel;have H1:=kA h1;have H2:=kA h2;have HB:=kA hb;clear h1 h2 hb
  by_cases hlt:lo<hi
  ·obtain⟨p,hp⟩:∃p,p=(lo+hi) / 2:=⟨_,rfl⟩;have zW:lo<=p:=om;have NP:p<hi:=om;have NQ:((lo:Int)+(hi:Int)) / 2=(p:Int):=om;obtain⟨b,off,x,rfl,Ht,hx,hr⟩:=hJ.at_ (i:=p) om;have HL:Hid (∀W,Bw w W->W.rangeAt b (off+p*12) (cRc x)):=kA (λW q=>zaP hr (q.block b Ht));have xf:=kA (HL wr HB);have Kj:Hid (∀W,Calls prog 142 #[.agg (cRc x).toArray,.int .i64 y] W λe w'=>e= .returned (.int .i64 (zfZ x.id y))/\Bw W w'):=kA (λW=>zsg x y W);have Hb:=kA (zaN x);have Dk:Hid (zfZ x.id y<0↔x.id<y):=kA zlT
   have Hn:Hid (x.id<y->∀t z,X[t]? =some z->t<p+1->z.id<y):=kA (λhlt t z hz ht=>by
    by_cases e:t=p
    ·subst e;rw[hx]at hz;injection hz with hz;rw[<-hz];exact hlt
    ·have Zu:=(List.getElem?_eq_some_iff.1 hz).1;have cW:=(List.getElem?_eq_some_iff.1 hx).1;have:=List.pairwise_iff_getElem.1 dM t p Zu cW om;rw[(List.getElem?_eq_some_iff.1 hz).2,(List.getElem?_eq_some_iff.1 hx).2]at this
     omega)
   have Hm:Hid (¬x.id<y->∀t z,X[t]? =some z->p<=t->y<=z.id):=kA (λhlt t z hz ht=>by
    by_cases e:t=p
    ·subst e;rw[hx]at hz;injection hz with hz;rw[<-hz];omega
    ·have Zu:=(List.getElem?_eq_some_iff.1 hz).1;have cW:=(List.getElem?_eq_some_iff.1 hx).1;have:=List.pairwise_iff_getElem.1 dM p t cW Zu om;rw[(List.getElem?_eq_some_iff.1 hz).2,(List.getElem?_eq_some_iff.1 hx).2]at this
     omega)
   obtain⟨XP,KS⟩:∃XP,XP=cRc x:=⟨_,rfl⟩;rw[<-KS]at Kj Hb HL xf;obtain⟨cc,KU⟩:∃cc,cc=zfZ x.id y:=⟨_,rfl⟩;rw[<-KU]at Kj Dk;obtain⟨xi,Qy⟩:∃xi,xi=x.id:=⟨_,rfl⟩;rw[<-Qy]at Dk Hn Hm;have k0:(lo:Int)<(hi:Int):=om;have p0:(0:Int)<=(p:Int):=om;have p1:(p:Int)<(n:Int):=om;clear KU Qy KS hx hr hp
   go_wp2_with (first
    | refine wpList_load_mid rfl 92 (.tmp 27) rfl b (off+p*12) rfl XP _ xf underlying92 rfl Hb ?_)
   refine (Kj _).mono ?_;rintro e w1 ⟨rfl,b1⟩;replace HB:=kA (zad HB b1);clear b1 Kj HL xf Hb
   by_cases yc:xi<y
   ·have KU:cc<0:=Dk.2 yc;have HN:=kA (Hn yc);clear Hn Hm Dk yc;go_wp2;go_roundw
    case rel=>exact⟨p+1,hi,by go_num,rfl,om,om,HN.out,H2.out,HB⟩
    case measure=>simp[ivl] <;> omega
   ·have KU:¬cc<0:=λc=>yc (Dk.1 c);have HN:=kA (Hm om);clear Hn Hm Dk yc;go_wp2;go_roundw
    case rel=>exact⟨lo,p,rfl,rfl,om,om,H1.out,HN.out,HB⟩
    case measure=>simp[ivl] <;> omega
  ·obtain rfl:lo=hi:=om
   by_cases Y3:lo<n
   ·obtain⟨b,off,x,rfl,Ht,hx,hr⟩:=hJ.at_ (i:=lo) Y3;have xf:Hid (wr.rangeAt b (off+lo*12) (cRc x)):=kA (zaP hr (HB.block b Ht));have Kj:Hid (∀W,Calls prog 142 #[.agg (cRc x).toArray,.int .i64 y] W λe w'=>e= .returned (.int .i64 (zfZ x.id y))/\Bw W w'):=kA (λW=>zsg x y W);have Hb:=kA (zaN x)
    have yk:Hid (decide (y∈X.map Rc.id)=decide (x.id=y)):=kA (by
     rw[decide_eq_decide,mem_map];constructor
     ·rintro⟨z,hz,rfl⟩;obtain⟨t,ht⟩:=getElem?_of_mem hz
      by_cases c:t<lo
      ·have:=H1.out t z ht c;omega
      ·by_cases d:t=lo
       ·subst d;rw[hx]at ht;injection ht with ht;rw[ht]
       ·have q:=H2.out lo x hx (Nat.le_refl _);have Zu:=(List.getElem?_eq_some_iff.1 ht).1;have cW:=(List.getElem?_eq_some_iff.1 hx).1;have:=List.pairwise_iff_getElem.1 dM lo t cW Zu om;rw[(List.getElem?_eq_some_iff.1 ht).2,(List.getElem?_eq_some_iff.1 hx).2]at this;omega
     ·intro e
      exact⟨x,mem_of_getElem? hx,e⟩)
    have Xm:Hid (zfZ x.id y=0↔x.id=y):=kA zo2;obtain⟨XP,KS⟩:∃XP,XP=cRc x:=⟨_,rfl⟩;rw[<-KS]at Kj Hb xf;obtain⟨cc,KU⟩:∃cc,cc=zfZ x.id y:=⟨_,rfl⟩;rw[<-KU]at Kj Xm;obtain⟨xi,Qy⟩:∃xi,xi=x.id:=⟨_,rfl⟩;rw[<-Qy]at Xm yk;have k0:¬(lo:Int)<(lo:Int):=om;have p0:(0:Int)<=(lo:Int):=om;have p1:(lo:Int)<(n:Int):=om
    have HZ:Hid ((cc==0)=decide (y∈X.map Rc.id)):=kA (by
     rw[yk.out]
     by_cases c:cc=0
     ·rw[decide_eq_true (Xm.1 c),c];rfl
     ·rw[decide_eq_false (λq=>c (Xm.2 q))];exact beq_eq_false_iff_ne.2 c)
    clear KU Qy KS hx hr H1 H2
    go_wp2_with (first
     | refine za6 (by rfl) 92 (.tmp 43) rfl b (off+lo*12) rfl XP _ xf underlying92 rfl Hb ?_)
    refine (Kj _).mono ?_;rintro e w1 ⟨rfl,b1⟩;replace HB:=kA (zad HB b1);clear b1 Kj xf Hb Xm;go_wp2;go_ret2;exact⟨(lo:Int),by rw[<-HZ.out];rfl,HB⟩
   ·have yk:Hid (decide (y∈X.map Rc.id)=false):=kA (decide_eq_false (by
     rw[mem_map];rintro⟨z,hz,rfl⟩;obtain⟨t,ht⟩:=getElem?_of_mem hz;have Zu:=(List.getElem?_eq_some_iff.1 ht).1;have:=H1.out t z ht (by have:=kG.out;omega)
     omega))
    have k0:¬(lo:Int)<(lo:Int):=om;have p1:¬(lo:Int)<(n:Int):=om;go_wp2;go_ret2
    first
     | exact⟨(lo:Int),by rw[yk.out];rfl,HB⟩
     | exact⟨yk.symm,HB⟩
     | exact⟨yk,HB⟩
     | exact⟨by simpa using yk.out,HB⟩
theorem zuI{tb:Nat}{T:Int->Option Unit}(hm:MFi kI w tb T)(l N:Nat)(hl:l<=N)(hN:N<=100000)(hT:(T (N:Nat)).isSome=false):
  Calls prog 143 #[.map (some tb),.int .i64 l] w λe w'=>∃n:Nat,e= .returned (.int .i64 n)/\l<=n/\n<=N/\(∀m:Nat,l<=m->m<n->(T (m:Nat)).isSome=true)/\(T (n:Nat)).isSome=false/\Bw w w':=by
 have HM:=kA hm;have HT:=kA hT;clear hm hT;go_enter func143,ntmps143;go_wp2
 go_loopw [1,5,6] (λv1 _ _ wr=>∃k:Nat,v1= .int .i64 k/\l<=k/\k<=N/\(∀m:Nat,l<=m->m<k->(T (m:Nat)).isSome=true)/\Bw w wr) (λv1 _ _ _=>N - (ivl v1).toNat)
 case atStart=>exact⟨l,rfl,om,hl,λm h1 h2=>om,Below.refl _ _⟩
 case round=>
  obtain⟨k,rfl,Cw,xA,hk,hb⟩:=hrel;have HK:=kA hk;have HB:=kA hb;clear hk hb;have Ci:Rg (k:Int):=by unfold Rg;omega
  have dd:(Instr.lookup 237 (.map (some tb)) (.int .i64 (k:Int)) true).run prog wr= .ok (.tuple #[.agg #[],.bool (T (k:Nat)).isSome]) wr:=(HM.keep HB).look Ci;obtain⟨bb,KD⟩:∃bb,bb=(T (k:Nat)).isSome:=⟨_,rfl⟩;rw[<-KD]at dd;have dA:=kA KD;have Hf:Bw wr (wr.alloc (.cells #[] 220)):=zaa _ _;have qE:=kA (zad HB Hf);clear KD Ci Hf;go_upto_region 2 with fail;refine fin (λW=>Bw w W) qE ?_;clear qE dd HB;intro W Kq;have HB:=kA Kq;clear Kq
  cases bb with
  | false=>
   go_wp2;go_ret;exact⟨k,rfl,om,om,HK.out,dA.symm,HB⟩
  | true=>
   have NR:k≠N:=λe=>by
    have h1:=HT.out;rw[<-e,<-dA.out]at h1
    cases h1
   have qI:Hid (∀m:Nat,l<=m->m<k+1->(T (m:Nat)).isSome=true):=kA (λm h1 h2=>by
    by_cases c:m=k
    ·rw[c];exact dA.symm
    ·exact HK m h1 om)
   go_wp2;go_roundw
   case rel=>exact⟨k+1,by go_num,om,om,qI.out,HB⟩
   case measure=>simp[ivl] <;> omega
theorem zfB{S:SlR}(hS:SI S){x:Int}:(slM S x).isSome=true↔x∈S.map Prod.fst:=by
 unfold slM;rw[<-zbd hS]
 by_cases c:0<=zau S x
 ·rw[if_pos c];exact⟨λ_=>c,λ_=>rfl⟩
 ·rw[if_neg c];exact⟨λh=>(by cases h),λh=>absurd h c⟩
theorem zcD(w:World)(n:Nat):Bw w (w.drewN n):=⟨rfl,rfl,rfl,Nat.le_refl _,λ_ _=>rfl⟩
theorem zcU(w:World):Bw w w.drew:=⟨rfl,rfl,rfl,Nat.le_refl _,λ_ _=>rfl⟩
theorem zsh(S:SlR)(fi:List Int):zjt S [] fi=slM S:=funext λx=>by
 unfold zjt;rw[if_neg (λq=>by cases q.1)]
theorem zo3{α β:Type}(f:β->α->β)(b:β){l:List α}{j:Nat}{x:α}(h:l[j]? =some x):(l.take (j+1)).foldl f b=f ((l.take j).foldl f b) x:=by
 rw[take_add_one,h,foldl_append];rfl
theorem zsi(zs:List Int):∀ (S:SlR),(zs.foldl za1 S).length<=S.length+zs.length:=by
 induction zs with
 | nil=>exact λ_=>Nat.le_refl _
 | cons x zs ih=>
   intro S;have h1:=ih (za1 S x);have h2:=zt8 S x;rw[length_cons];show (zs.foldl za1 (za1 S x)).length<=_;omega
def TkS(K:SlR)(left:Lit->Bool)(T:Int->Option Unit):Prop:=∀n:Int,(T n).isSome=true↔∃x,(x,n)∈K/\left (.int .i64 x)=false
theorem zo4{g mb cap nF cF:Nat}{aF:Option Addr}{zs:List Int}{fr:List Rc}{S K:SlR}(hm:MF sK13 w mb (slM S))
  (Co:Hid (∀W,w.grownBy W (some mb)->Row W a n zs/\zb4 W aF nF fr/\W.cell? ⟨g,2,none⟩=some (.map (some mb))/\g<W.heap.size))
  (kE:zdp fr)(hK:SI K)(Qz:zjt S zs (fr.map Rc.id)=slM K)(Ki:Rgs zs)(Kk:Rgs (fr.map Rc.id))(QA:∀p∈K,Rg p.1/\0<=p.2/\p.2<1000)(XH:K.length<=1000)(hn:n<=1900)(NS:nF<=1900):
  Calls prog 78 #[.pointer (some ⟨g,0,none⟩),.slice a n cap,.slice aF nF cF] w λe w'=>e= .returned (.tuple #[])/\MF sK13 w' mb (slM ((fr.map Rc.id).foldl za1 K))/\w.grownBy w' (some mb):=by
 have X3:= @run_makeMap prog;have dw:Hid (∀W y,w.grownBy W (some mb)->Calls prog 141 #[.slice aF nF cF,.int .i64 y,.func (.func 142) #[] #[]] W λe w'=>∃i:Int,e= .returned (.tuple #[.int .i64 i,.bool (decide (y∈fr.map Rc.id))])/\Bw W w'):=kA (λW y q=>zxD aF nF cF fr y W (Co W q).2.1 kE om);have zc:=kA Ki;have Kn:=kA Kk;have Y0:=kA hK;have Zv:=kA QA;have KV:=kA Qz;have DC:Hid (MF sK13 w mb (zjt S (zs.take 0) (fr.map Rc.id))):=kA (by rw[take_zero,zsh];exact hm);have xH:Hid (zs.length=n):=kA (Co w ⟨rfl,rfl,rfl,Nat.le_refl _,λ_ _ _=>rfl⟩).1.1;have Ya:Hid (fr.length=nF):=kA (Co w ⟨rfl,rfl,rfl,Nat.le_refl _,λ_ _ _=>rfl⟩).2.1.1;have xR:Hid (zs.take n=zs):=kA (take_of_length_le (by rw[xH.out];exact Nat.le_refl _));have BN:Hid (w.grownBy w (some mb)):=kA ⟨rfl,rfl,rfl,Nat.le_refl _,λ_ _ _=>rfl⟩
 have YI:Hid (∀W j y,MF sK13 W mb (zjt S (zs.take j) (fr.map Rc.id))->zs[j]? =some y->y∉fr.map Rc.id->Rg y->∃w',(∀ty,(Builtin.delete_ #[106,81] ty #[.map (some mb),.int .i64 y]).run prog W= .ok (.tuple #[]) w')/\MF sK13 w' mb (zjt S (zs.take (j+1)) (fr.map Rc.id))/\W.grownBy w' (some mb)):=kA (λW j y h hj hy hr=>by
  obtain⟨w',h1,h2,h3⟩:=h.del hr;refine⟨w',h1,?_,h3⟩;rw[znP hj,if_neg hy]
  exact h2)
 have Jm:Hid (∀W j y,MF sK13 W mb (zjt S (zs.take j) (fr.map Rc.id))->zs[j]? =some y->y∈fr.map Rc.id->MF sK13 W mb (zjt S (zs.take (j+1)) (fr.map Rc.id))):=kA (λW j y h hj hy=>by rw[znP hj,if_pos hy];exact h);have Vz:Hid (∀W,MF sK13 W mb (zjt S (zs.take n) (fr.map Rc.id))->MF sK13 W mb (slM K)):=kA (λW h=>by rw[xR.out,KV.out]at h;exact h);obtain⟨dm,RP⟩:∃dm:Nat->Int->Option Int,dm=λj=>zjt S (zs.take j) (fr.map Rc.id):=⟨_,rfl⟩;have edm:∀j,zjt S (zs.take j) (fr.map Rc.id)=dm j:=λj=>by rw[RP]
 simp only[edm]at DC YI Jm Vz;obtain⟨fi,zd⟩:∃fi,fi=fr.map Rc.id:=⟨_,rfl⟩;have Jn:=kA zd;rw[<-zd]at dw Kn YI Jm ⊢;clear Ki Kk hK QA Qz hm kE KV xR RP edm zd;go_enter func78,ntmps78;go_wp2
 go_loopw [7,8,9,20] (λ_ _ _ v20 wr=>∃j:Nat,v20= .int .i64 j/\j<=n/\MF sK13 wr mb (dm j)/\w.grownBy wr (some mb)) (λ_ _ _ v20 _=>n - (ivl v20).toNat)
 case atStart=>exact⟨0,rfl,om,DC.out,BN⟩
 case round=>
  clear DC;obtain⟨j,rfl,hj,hm,hg⟩:=hrel;have HM:=kA hm;have HG:=kA hg;clear hm hg
  by_cases hlt:j<n
  ·have j0:(0:Int)<=(j:Int):=om;have j1:(j:Int)<(n:Int):=om;obtain⟨ib,ioff,y,rfl,hy,cy⟩:=zch (Co wr HG).1 hlt;have Qp:=World.block_lt_of_cell? _ _ cy;have HY:=kA hy;have Qv:=kA (zc y (mem_of_getElem? hy));clear hy;go_wp2_with fail;refine (dw _ y HG).mono ?_;rintro e w5 ⟨i5,rfl,b5⟩;have VA:=kA (HM.keep b5);have VB:Hid (w.grownBy w5 (some mb)):=kA (zap HG (zaQ b5 _));obtain⟨-,-,c2,Km⟩:=Co.out w5 VB;clear b5 cy Qp HM HG;obtain⟨bb,KD⟩:∃bb,bb=decide (y∈fi):=⟨_,rfl⟩;rw[<-KD];have dA:=kA KD;clear KD
   cases bb with
   | true=>
    have HN:=kA (Jm w5 j y VA HY (of_decide_eq_true dA.symm));go_wp2;go_roundw
    case rel=>exact⟨j+1,by go_num,om,HN.out,VB⟩
    case measure=>simp[ivl] <;> omega
   | false=>
    obtain⟨w6,r1,QB,DZ⟩:=YI.out w5 j y VA HY (of_decide_eq_false dA.symm) Qv;have HN:=kA (And.intro QB (zap VB DZ));clear QB DZ;go_wp2_with (at_builtin;refine za9 rfl (.tmp 36) (.tmp 37) 106 81 rfl _ _ rfl rfl (r1 _) ?_);clear r1 c2 Km VA;go_wp2;go_roundw
    case rel=>exact⟨j+1,by go_num,om,HN.1,HN.2⟩
    case measure=>simp[ivl] <;> omega
  ·obtain rfl:j=n:=om;have j2:¬(j:Int)<(j:Int):=om;have VC:=kA (Vz _ HM);have VD:=VC.lt;have yj:=HG.size;clear HM Vz Jm YI dw zc xH;go_upto_region 8 with fail;have Hf:Bw wr (wr.alloc (.map #[] 0)):=zaa _ _;refine fin (λW=>MF sK13 W mb (slM K)/\MFi kI W wr.heap.size (λ_=>none)/\w.grownBy W (some mb)) ⟨VC.keep Hf,MFi.new kI wr,zap HG (zaQ Hf _)⟩ ?_;obtain⟨tb,RQ⟩:∃tb,tb=wr.heap.size:=⟨_,rfl⟩;have QC:tb≠mb:=om;have NT:w.heap.size<=tb:=om;rw[<-RQ];clear Hf VC HG VD yj RQ;rintro W ⟨hm,ht,hg⟩;obtain⟨-,-,c2,Km⟩:=Co.out W hg;obtain⟨W1,left,cnt,Ci,xW,CJ,Zj,Hj,Kr⟩:=hm.range13;have Zw:=kA xW;have Qw:Hid (MFi kI W1 tb (λ_=>none)):=kA (ht.same (Hj.block _ ht.lt (by simp)));have RR:Hid (w.grownBy W1 (some mb)):=kA (zap hg (Hj.but _));have HL:=kA CJ
   have QD:Hid (TkS K left (λ_=>none)):=kA (λm=>⟨λh=>(by cases h),λ⟨x,hx,hl⟩=>by
    have h1:(slM K x).isSome=true:=(zfB Y0).2 (mem_map.2 ⟨_,hx,rfl⟩);rw[Zj x (Zv _ hx).1,h1]at hl
    cases hl⟩)
   have VE:tb≠W.heap.size:=by have:=ht.lt;omega
   have kO:w.heap.size<=W.heap.size:=hg.size;obtain⟨r,hr⟩:∃r,r=W.heap.size:=⟨_,rfl⟩;rw[<-hr]at Ci Zw VE kO;clear hm ht hg xW CJ Zj Hj Kr hr;go_wp2
   go_loopw [12] (λ_ wq=>∃ (left:Lit->Bool) (cnt:Nat) (T:Int->Option Unit),MRg sK13 wq mb r (slM K) left cnt/\(∀x,left (.int .i64 x)=true->(slM K x).isSome=true/\Rg x)/\MFi kI wq tb T/\TkS K left T/\w.grownBy wq (some mb)) (λ_ wq=>wq.rangeLeft mb r)
   case atStart=>exact⟨left,cnt,_,Zw.out,HL.out,Qw.out,QD.out,RR⟩
   case round=>
    clear Zw HL Qw QD RR Ci c2 Km left cnt;obtain⟨left,cnt,T,xW,CJ,ht,QE,hg⟩:=hrel;have Zw:=kA xW;have HL:=kA CJ;have HT:=kA ht;have VF:=kA QE;have HG:=kA hg;have j7:=xW.lt;have VG:=xW.ne;have yv:=ht.lt;rcases xW.next CJ with ⟨h0,QF⟩ | ⟨x,s,w',cnt',hs,ym,QF,QG,yf,ze,VH,VI⟩
    ·have xx:Hid (∀m:Int,(T m).isSome=zc0 K m):=kA (λm=>by
      rw[Bool.eq_iff_iff,VF m,zi4,mem_map];constructor
      ·rintro⟨x,hx,_⟩;exact⟨_,hx,rfl⟩
      ·rintro⟨⟨x,m'⟩,hx,rfl⟩;exact⟨x,hx,h0 x⟩)
     have HM:=kA xW.owns;obtain⟨-,-,c2,Km⟩:=Co.out _ hg;have QH:Hid (LInv K ((fi.take 0).foldl za1 K) 0):=kA (LInv.start Y0);have DC:Hid (MF sK13 wr mb (slM ((fi.take 0).foldl za1 K))):=HM;clear xW CJ ht QE hg h0 Zw HL VF HM;go_wp2
     go_loopw [13,15,16,17,55] (λNh _ _ _ v55 wq=>∃ (k l:Nat),v55= .int .i64 k/\Nh= .int .i64 l/\k<=nF/\LInv K ((fi.take k).foldl za1 K) l/\MF sK13 wq mb (slM ((fi.take k).foldl za1 K))/\MFi kI wq tb T/\w.grownBy wq (some mb)) (λ_ _ _ _ v55 _=>nF - (ivl v55).toNat)
     case atStart=>exact⟨0,0,rfl,rfl,om,QH.out,DC.out,HT.out,HG⟩
     case round=>
      clear QH DC HT HG c2 Km;obtain⟨k,l,rfl,rfl,hk,yw,hm,ht,hg⟩:=hrel;have Cp:=kA yw;have HM:=kA hm;have HT:=kA ht;have HG:=kA hg;have yv:=ht.lt
      by_cases VJ:k<nF
      ·have k0:(0:Int)<=(k:Int):=om;have k1:(k:Int)<(nF:Int):=om;obtain⟨-,RU,c2,Km⟩:=Co.out _ hg;obtain⟨b,off,x,rfl,Ht,hx,hr⟩:=RU.at_ VJ;have Jo:fi[k]? =some x.id:=by rw[Jn.out,getElem?_map,hx];rfl
       have kM:=kA (zo3 za1 K Jo);have Jp:Rg x.id:=Kn.out _ (mem_of_getElem? Jo);have Kl:=yw.bound;have ku:=zsi (fi.take k) K;have Da:(fi.take k).length<=k:=by rw[length_take];omega
       have Yq:Hid (∀y,((λy=>if y=x.id then some (0:Int) else slM ((fi.take k).foldl za1 K) y) y).isSome=true->y∈x.id::(((fi.take k).foldl za1 K).map Prod.fst)):=kA (λy hy=>by
        by_cases c:y=x.id
        ·rw[c];exact mem_cons_self
        ·simp only[if_neg c]at hy
         exact mem_cons_of_mem _ ((zfB yw.si).1 hy))
       obtain⟨Sk,RV⟩:∃Sk,Sk=(fi.take k).foldl za1 K:=⟨_,rfl⟩;rw[<-RV]at Cp HM kM Kl ku Yq;have dd:∀W,MF sK13 W mb (slM Sk)->(Instr.lookup 106 (.map (some mb)) (.int .i64 x.id) true).run prog W= .ok (.tuple #[.int .i64 ((slM Sk x.id).getD 0),.bool (slM Sk x.id).isSome]) W:=λW h=>h.look Jp;have d9:=kA dd;have xF:=kA hr;have Hb:=kA (zaN x);have Dp:Hid ((prog.info? 92).map (·.size)=some (cRc x).toArray.size):=kA (by rw[size_toArray];exact zaN x);have RY:=kA (zb2 x);have yi:Hid (∀W g,Blk W g 92 (cRc x).toArray->W.cell? ⟨g,0,none⟩=some (.int .i64 x.id)):=kA (λW g q=>q.cell 0);have CI:Hid ((cRc x).length=12):=kA rfl;obtain⟨XX,YP⟩:∃XX,XX=cRc x:=⟨_,rfl⟩;rw[<-YP]at xF Hb Dp RY yi CI;obtain⟨y,hy⟩:∃y,y=x.id:=⟨_,rfl⟩;rw[<-hy]at kM d9 yi Yq Jp Jo;have Qv:=kA Jp;have H9:Bw wr ((wr.alloc (.cells (cRc zRc).toArray 92)).setCells wr.heap.size 0 XX):=zab XX (zaa _ _) (Nat.le_refl _);have QI:Hid ((wr.alloc (.cells (cRc zRc).toArray 92)).there wr.heap.size 0 XX.toArray.size):=kA (zae (Blk.new wr _ _) (by rw[size_toArray,CI.out];exact Nat.le_refl 12));have QJ:Hid (Blk ((wr.alloc (.cells (cRc zRc).toArray 92)).setCells wr.heap.size 0 XX) wr.heap.size 92 XX.toArray/\Bw wr ((wr.alloc (.cells (cRc zRc).toArray 92)).setCells wr.heap.size 0 XX)):=kA ⟨zal (Blk.new wr _ _) (by rw[CI.out];rfl),H9⟩;clear yw hm ht hg RU hx hr Jo Jp dd YP hy RV H9
       go_upto_region 16 with (first
        | refine wpList_load_mid rfl 92 (.tmp 57) rfl b (off+k*12) rfl XX _ xF underlying92 rfl Hb ?_
        | refine wpList_store_mid rfl 92 (.tmp 15) (.tmp 58) rfl wr.heap.size 0 XX.toArray rfl rfl QI Dp RY ?_)
       refine fin (λW=>Blk W wr.heap.size 92 XX.toArray/\Bw wr W) QJ ?_;obtain⟨g15,C0⟩:∃g,g=wr.heap.size:=⟨_,rfl⟩;have RZ:=HM.lt;have VK:=HG.size;rw[<-C0]at RZ yv VK ⊢;rintro W ⟨xV,Kq⟩
       try rw[C0]at Kq
       have VL:=yi.out W g15 xV;have QK:=xV.lt;have VM:=kA (HM.keep Kq);have R3:=kA (HT.keep Kq);have VN:Hid (w.grownBy W (some mb)):=kA (zap HG (zaQ Kq _));obtain⟨-,-,jz,VO⟩:=Co.out _ VN;have dd:=λnq=>d9.out (W.drewN nq) (VM.keep (zcD W nq));have XG:=kA xV;have J1:(slM Sk y).isSome=decide (0<=zau Sk y):=by
        unfold slM
        by_cases c:0<=zau Sk y
        ·rw[if_pos c,decide_eq_true c];rfl
        ·rw[if_neg c,decide_eq_false c];rfl
       rw[J1]at dd;obtain⟨sd,R5⟩:∃sd,sd=(slM Sk y).getD 0:=⟨_,rfl⟩;rw[<-R5]at dd;obtain⟨bb,KD⟩:∃bb,bb=decide (0<=zau Sk y):=⟨_,rfl⟩;rw[<-KD]at dd;have dA:=kA KD;clear QJ QI xF xV Kq HM HT HG c2 Km C0 Ht J1 R5 KD d9;go_wp2;go_quiet (fail);have YE:=zcD W nq;refine fin (λV=>Blk V g15 92 XX.toArray/\MF sK13 V mb (slM Sk)/\MFi kI V tb T/\w.grownBy V (some mb)/\w.heap.size<=g15) ⟨XG.keep YE,VM.keep YE,R3.keep YE,zap VN (zaQ YE _),VK⟩ ?_;clear YE XG VM R3 VN dd VL QK jz VO RZ yv VK;rintro V ⟨xV,hm,ht,hg,yj⟩;have XG:=kA xV;have HM:=kA hm;have HT:=kA ht;have HG:=kA hg;have NU:=kA yj;clear xV hm ht hg yj
       cases bb with
       | true=>
        have HE:=kA (zr4 (of_decide_eq_true dA.out.symm));rw[HE.out]at kM;have HR:Hid (LInv K ((fi.take (k+1)).foldl za1 K) l/\MF sK13 V mb (slM ((fi.take (k+1)).foldl za1 K))/\MFi kI V tb T/\w.grownBy V (some mb)):=kA ⟨kM.out ▸ Cp.out,kM.out ▸ HM.out,HT.out,HG.out⟩;clear Cp HM HT HG XG kM HE dA;go_wp2;go_roundw
        case rel=>exact⟨k+1,l,by go_num,rfl,om,HR.1,HR.2.1,HR.2.2.1,HR.2.2.2⟩
        case measure=>simp[ivl] <;> omega
       | false=>
        have Hm:Hid (¬0<=zau Sk y):=kA (of_decide_eq_false dA.symm);have yX:=kA (zuI HT l (zbw Sk) Kl.1 om (by rw[xx.out];exact Kl.2.1));go_wp2_with fail;refine yX.mono ?_;rintro e V2 ⟨q,rfl,xc,Zf,Yi,qP,b2⟩;have VP:=Cp.give (Int.not_le.2 Hm) xc (λm h1 h2=>by rw[<-xx.out];exact Yi m h1 h2) (by rw[<-xx.out];exact qP)
        have VQ:Hid (LInv K ((fi.take (k+1)).foldl za1 K) (q+1)/\slM ((fi.take (k+1)).foldl za1 K)=upm (slM Sk) y (some (q:Int))):=kA ⟨kM.out ▸ VP.2,by
         rw[kM.out,VP.1]
         exact zus Cp.si (Int.not_le.2 Hm)⟩
        have Ct:=HM.keep b2;have Zx:=HT.keep b2;have k2:=XG.keep b2;have Km:=zap HG (zaQ b2 _);have YG:Rg (q:Int):=by unfold Rg;omega
        have QL:MF sK13 V2.drew mb (slM Sk):=Ct.keep (zcU V2)
        obtain⟨V3,Hi,qc,dT⟩:=QL.put Qv (q:Int) (y::(Sk.map Prod.fst)) (λz hz=>by
         unfold upm at hz
         by_cases c:z=y
         ·rw[c];exact mem_cons_self
         ·rw[if_neg c]at hz
          exact mem_cons_of_mem _ ((zfB Cp.si).1 hz)) (by rw[length_cons,length_map];omega)
        have Yc:(Instr.mapUpdate 106 (.map (some mb)) (.int .i64 y) (.int .i64 (q:Int))).run prog V2.drew= .ok () V3:=Hi;obtain⟨-,-,c2,BO⟩:=Co.out V2 Km;have zh:w.grownBy V3 (some mb):=zap Km (zap (b:=V2.drew) (zaQ (zcU V2) _) dT);obtain⟨-,-,c3,-⟩:=Co.out V3 zh;have QM:g15≠mb:=by
         have h1:=k2.lt;intro e;obtain⟨D,hD,_⟩:=Ct;obtain⟨es,clock,hb,_⟩:=hD;have k3:=k2;unfold Blk at k3;rw[e,hb]at k3
         cases k3
        have cQ:V3.cell? ⟨g15,0,none⟩=some (.int .i64 y):=yi.out V3 g15 (k2.same (dT.block _ k2.lt (by intro e;injection e with e;exact QM e)));have R6:MFi kI V3 tb T:=Zx.same (dT.block _ Zx.lt (by intro e;injection e with e;exact QC e));have SA:=kA (And.intro c2 (yi V2 g15 k2));have SE:=kA (And.intro c3 cQ);have QK:=k2.lt;have HR:Hid (LInv K ((fi.take (k+1)).foldl za1 K) (q+1)/\MF sK13 V3 mb (slM ((fi.take (k+1)).foldl za1 K))/\MFi kI V3 tb T/\w.grownBy V3 (some mb)):=kA ⟨VQ.1,by rw[VQ.2];exact qc,R6,zh⟩;clear yX VP VQ QL Ct Zx k2 Km YG Hi qc dT c2 zh c3 QM cQ R6 b2 Yi qP Cp HM HT HG XG kM Hm dA;go_wp2;refine wp_region_held_drew (S:=λw'=>w'.cell? ⟨g,2,none⟩=some (.map (some mb))/\w'.cell? ⟨g15,0,none⟩=some (.int .i64 y)) oM (SA.out) (λhHeld=> ?_);refine tk 0 hHeld ?_;refine tk 1 hHeld ?_;refine tk 2 hHeld ?_;refine tk 3 hHeld ?_;refine tk 4 hHeld ?_;refine tk 5 hHeld ?_;refine tk 6 hHeld ?_;refine tk 7 hHeld ?_;refine rd 8 (λK hK=> ?_);go_simp;refine hK.out _ _ (SE.out) (λhHeld=> ?_);clear hK K;refine wpAnyH_done oM ?_ _;go_wp2;go_roundw
        case rel=>exact⟨k+1,q+1,by go_num,by go_num,om,HR.1,HR.2.1,HR.2.2.1,HR.2.2.2⟩
        case measure=>simp[ivl] <;> omega
      ·obtain rfl:k=nF:=om;have k2:¬(k:Int)<(k:Int):=om
       have dz:Hid (MF sK13 wr mb (slM (fi.foldl za1 K))/\w.grownBy wr (some mb)):=kA ⟨by
        have h1:=HM.out;rw[take_of_length_le (by rw[Jn.out,length_map,Ya.out];exact Nat.le_refl _)]at h1
        exact h1,HG⟩
       go_wp2;go_end0;exact⟨rfl,dz.1,dz.2⟩
    ·have Jq:Rg x:=(CJ x ym).2;have yx:(x,s)∈K:=(znQ Y0).1 hs;have R7:Rg s:=by
      have:=(Zv _ yx).2;unfold Rg;simp only at this;omega
     have R8:MFi kI w' tb T:=ht.same (ze.block _ yv (by intro e;injection e with e;exact VE e))
     obtain⟨w2,Hi,Zx,Km⟩:=R8.put R7 () (K.map Prod.snd) (λy hy=>by
      unfold upm at hy
      by_cases c:y=s
      ·rw[c];exact mem_map.2 ⟨_,yx,rfl⟩
      ·rw[if_neg c]at hy;obtain⟨z,hz,_⟩:=(QE y).1 hy
       exact mem_map.2 ⟨_,hz,rfl⟩) (by rw[length_map];omega)
     have Yc:(Instr.mapUpdate 237 (.map (some tb)) (.int .i64 s) (.agg #[])).run prog w'= .ok () w2:=Hi;have zi:MRg sK13 w2 mb r (slM K) (λz=>left z && !z.sameKey (.int .i64 x)) cnt':=QG.kept Km (by intro e;injection e with e;exact QC e.symm) (by intro e;injection e with e;exact VE e.symm)
     have VR:Hid (MRg sK13 w2 mb r (slM K) (λz=>left z && !z.sameKey (.int .i64 x)) cnt'/\(∀y,(left (.int .i64 y) && !(Lit.int .i64 y).sameKey (.int .i64 x))=true->(slM K y).isSome=true/\Rg y)/\MFi kI w2 tb (upm T s (some ()))/\TkS K (λz=>left z && !z.sameKey (.int .i64 x)) (upm T s (some ()))/\w.grownBy w2 (some mb)):=kA ⟨zi,λy hy=>CJ y (by rw[Bool.and_eq_true]at hy;exact hy.1),Zx,λm=>by
      unfold upm
      by_cases c:m=s
      ·rw[if_pos c,c];exact⟨λ_=>⟨x,yx,by show (left _ && !(Lit.int .i64 x).sameKey (.int .i64 x))=false;rw[zif,decide_eq_true rfl];simp⟩,λ_=>rfl⟩
      ·rw[if_neg c,QE m];constructor
       ·rintro⟨z,hz,hl⟩;exact⟨z,hz,by show (left _ && _)=false;rw[hl];rfl⟩
       ·rintro⟨z,hz,hl⟩;refine⟨z,hz,?_⟩;have Yw:(left (.int .i64 z) && !(Lit.int .i64 z).sameKey (.int .i64 x))=false:=hl
        by_cases d:z=x
        ·subst d;have h1:=(znQ Y0).2 hz;rw[hs]at h1;injection h1 with h1;exact absurd h1.symm c
        ·rw[zif,decide_eq_false d]at Yw
         simpa using Yw,(hg.andThen ze (λj e=>by injection e with e;exact .inl om)).andThen Km (λj e=>by injection e with e;exact .inl om)⟩
     have yy:Hid (w2.rangeLeft mb r<wr.rangeLeft mb r):=kA (by rw[zi.left_eq,xW.left_eq];exact yf);clear xW CJ ht QE hg Zw HL HT VF HG QG ze VH Jq yx R7 R8 Hi Zx Km zi hs ym yf;go_wp2;go_roundw
     case rel=>exact⟨_,cnt',_,VR⟩
     case measure=>exact yy
structure LWE (FB:World->Nat->(Nat->Prop)->FD->Prop) (w W:World) (g gf mb:Nat) (F Ff:Nat->Prop) (vr:Value) (D:FD) (R:List Rc) (m:Int->Option Int) (since n:Int):Prop where
 blk:Blk W g 111 #[.pointer (some ⟨gf,0,none⟩),vr,.map (some mb),.int .i64 since,.int .i64 n]
 fl:FB W gf Ff D
 rc:OwnX 12 cRc 92 W 0 vr R
 mp:MF sK13 W mb m
 gF:¬Ff g
 mF:¬Ff mb
 mg:mb≠g
 rF:∀b,vr.ownBlock=some b->b≠g/\b≠mb/\¬Ff b
 fr:Fr w W F
 sub:∀b,zkG g Ff vr mb b->F b∨w.heap.size<=b
section
variable {FB:World->Nat->(Nat->Prop)->FD->Prop} {w W W':World} {g gf mb:Nat} {F Ff KJ:Nat->Prop} {vr gX:Value} {D D':FD} {R R':List Rc} {m m':Int->Option Int} {since since' n n':Int}
theorem LEx.lw(hC:FWE FB){E:XS}{w0:World}(h:LEx FB w0 g gf Ff vr mb E)(hF:∀b,F b↔zkG g Ff vr mb b)(hb:Bw w0 w):LWE FB w w g gf mb F Ff vr E.D E.R (slM E.S) E.since E.n:=by
 have k:=h.keep hC hb;exact⟨k.blk,k.fl,k.rc,k.mp,k.gF,k.mF,k.mg,k.rF,⟨rfl,rfl,rfl,Nat.le_refl _,λ_ _ _=>rfl⟩,λb c=>Or.inl ((hF b).2 c)⟩
theorem LWE.keep(hC:FWE FB)(h:LWE FB w W g gf mb F Ff vr D R m since n)(hb:Bw W W'):LWE FB w W' g gf mb F Ff vr D R m since n:=
 ⟨h.blk.keep hb,hC.keep h.fl hb,h.rc.keep hb,h.mp.keep hb,h.gF,h.mF,h.mg,h.rF,Fr.behind h.fr hb,h.sub⟩
theorem LWE.flow(h:LWE FB w W g gf mb F Ff vr D R m since n)(h1:FB W' gf KJ D')(h2:Fr W W' Ff)(h3:∀b,KJ b->Ff b∨W.heap.size<=b):LWE FB w W' g gf mb F KJ vr D' R m since n:=
 ⟨h.blk.same (h2.2.2.2.2 g h.blk.lt h.gF),h1,h.rc.same (λb e=>h2.2.2.2.2 b (h.rc.lt b e).2 (h.rF b e).2.2),h.mp.same (h2.2.2.2.2 mb h.mp.lt h.mF),λc=>(h3 g c).elim h.gF (λd=>by have:=h.blk.lt;omega),λc=>(h3 mb c).elim h.mF (λd=>by have:=h.mp.lt;omega),h.mg,
  λb e=>⟨(h.rF b e).1,(h.rF b e).2.1,λc=>(h3 b c).elim (h.rF b e).2.2 (λd=>by have:=(h.rc.lt b e).2;omega)⟩,Fr.two h.fr h2 (λx c=>h.sub x (.inr (.inl c))),λb c=>by
   rcases c with c | c | c | c
   ·exact h.sub b (.inl c)
   ·rcases h3 b c with d | d
    ·exact h.sub b (.inr (.inl d))
    ·exact .inr (Nat.le_trans h.fr.2.2.2.1 d)
   ·exact h.sub b (.inr (.inr (.inl c)))
   ·exact h.sub b (.inr (.inr (.inr c)))⟩
theorem LWE.frg(h:LWE FB w W g gf mb F Ff vr D R m since n){row:Option Nat}(k:W.grownBy W' row)(hr:∀b,row=some b->b=g∨b=mb):Fr w W' F:=
 Fr.two h.fr (F':=λb=>row=some b) ⟨k.os,k.tape,k.output,k.size,λb hb hn=>k.block b hb (λe=>hn e.symm)⟩ (λx c=>by
  rcases hr x c with e | e
  ·exact h.sub x (.inl e)
  ·exact h.sub x (.inr (.inr (.inr e))))
theorem LWE.other(hC:FWE FB)(h:LWE FB w W g gf mb F Ff vr D R m since n){i:Nat}{u:Value}:FB (W.setCell ⟨g,i,none⟩ u) gf Ff D/\OwnX 12 cRc 92 (W.setCell ⟨g,i,none⟩ u) 0 vr R/\MF sK13 (W.setCell ⟨g,i,none⟩ u) mb m:=by
 have k:=zaR W g i u;exact⟨hC.keep_ _ _ _ _ _ h.fl (λb c=>k.block b (hC.inb _ _ _ _ h.fl b c) (by intro e;injection e with e;rw[e]at c;exact h.gF c)),h.rc.same (λb e=>k.block b (h.rc.lt b e).2 (by intro q;injection q with q;exact (h.rF b e).1 q)),h.mp.same (k.block _ h.mp.lt (by intro e;injection e with e;exact h.mg e))⟩
theorem LWE.setN(hC:FWE FB)(h:LWE FB w W g gf mb F Ff vr D R m since n)(n':Int):LWE FB w (W.setCell ⟨g,4,none⟩ (.int .i64 n')) g gf mb F Ff vr D R m since n':=
 ⟨h.blk.set_ 4 _,(h.other hC).1,(h.other hC).2.1,(h.other hC).2.2,h.gF,h.mF,h.mg,h.rF,h.frg (zaR W g 4 _) (λb e=>by injection e with e;exact .inl e.symm),h.sub⟩
theorem LWE.setT(hC:FWE FB)(h:LWE FB w W g gf mb F Ff vr D R m since n)(t:Int):LWE FB w (W.setCell ⟨g,3,none⟩ (.int .i64 t)) g gf mb F Ff vr D R m t n:=
 ⟨h.blk.set_ 3 _,(h.other hC).1,(h.other hC).2.1,(h.other hC).2.2,h.gF,h.mF,h.mg,h.rF,h.frg (zaR W g 3 _) (λb e=>by injection e with e;exact .inl e.symm),h.sub⟩
theorem LWE.setR(hC:FWE FB)(h:LWE FB w W g gf mb F Ff vr D R m since n){base:Nat}{v':Value}(ho:OwnX 12 cRc 92 W base v' R')(h1:∀b,Ff b->b<base)(h2:g<base)(h3:mb<base)(h4:w.heap.size<=base):LWE FB w (W.setCell ⟨g,1,none⟩ v') g gf mb F Ff v' D R' m since n:=
 ⟨h.blk.set_ 1 _,(h.other hC).1,(ho.same (λb e=>(zaR W g 1 v').block b (ho.lt b e).2 (by intro q;injection q with q;have:=(ho.lt b e).1;omega))).low (zero_le _),(h.other hC).2.2,h.gF,h.mF,h.mg,λb e=>by
   have h5:=(ho.lt b e).1;exact⟨om,om,λc=>by have:=h1 b c;omega⟩,h.frg (zaR W g 1 _) (λb e=>by injection e with e;exact .inl e.symm),λb c=>by
   rcases c with c | c | c | c
   ·exact h.sub b (.inl c)
   ·exact h.sub b (.inr (.inl c))
   ·exact .inr (Nat.le_trans h4 (ho.lt b c).1)
   ·exact h.sub b (.inr (.inr (.inr c)))⟩
theorem LWE.setM(hC:FWE FB)(h:LWE FB w W g gf mb F Ff vr D R m since n)(k:W.grownBy W' (some mb))(hm:MF sK13 W' mb m'):LWE FB w W' g gf mb F Ff vr D R m' since n:=
 ⟨h.blk.same (k.block g h.blk.lt (by intro e;injection e with e;exact h.mg e.symm)),hC.keep_ _ _ _ _ _ h.fl (λb c=>k.block b (hC.inb _ _ _ _ h.fl b c) (by intro e;injection e with e;rw[e]at c;exact h.mF c)),h.rc.same (λb e=>k.block b (h.rc.lt b e).2 (by intro q;injection q with q;exact (h.rF b e).2.1 q)),hm,h.gF,h.mF,h.mg,h.rF,h.frg k (λb e=>by injection e with e;exact .inr e.symm),h.sub⟩
theorem LWE.done(h:LWE FB w W g gf mb F Ff vr D R m since n){w0:World}(hb:Bw w0 w){E:XS}(e1:E.D=D)(e2:E.R=R)(e3:slM E.S=m)(e4:E.since=since)(e5:(E.n:Int)=n):ChB (LEB FB) w0 W g F E:=by
 subst e1 e2 e3 e4 e5;exact⟨zkG g Ff vr mb,⟨gf,Ff,vr,mb,⟨h.blk,h.fl,h.rc,h.mp,h.gF,h.mF,h.mg,h.rF⟩,λ_=>Iff.rfl⟩,Fr.after hb h.fr,λb c=>(h.sub b c).imp id (λd=>Nat.le_trans hb.size d)⟩
theorem LWE.reads(h:LWE FB w W g gf mb F Ff vr D R m since n):W.cell? ⟨g,0,none⟩=some (.pointer (some ⟨gf,0,none⟩))/\W.cell? ⟨g,1,none⟩=some vr/\W.cell? ⟨g,2,none⟩=some (.map (some mb))/\W.cell? ⟨g,3,none⟩=some (.int .i64 since)/\W.cell? ⟨g,4,none⟩=some (.int .i64 n)/\g<W.heap.size:=⟨h.blk.cell 0,h.blk.cell 1,h.blk.cell 2,h.blk.cell 3,h.blk.cell 4,h.blk.lt⟩
end
theorem zAr(g n cap:Nat)(X:List Rc)(w:World)(hX:MR 12 cRc 92 w g X)(hn:X.length=n)(Hy:n<=19):
  Calls prog 266 #[.slice (some ⟨g,0,none⟩) n cap,.int .i64 n,.func (.func 222) #[] #[]] w λe w'=>e= .returned (.tuple #[])/\∃Y,DR w 92 g w' Y/\SStep Rc.id X Y 0 n/\AscIn Rc.id Y 0 n:=by
 have HI:Hid (Calls prog 293 #[.slice (some ⟨g,0,none⟩) n cap,.int .i64 0,.int .i64 n,.func (.func 222) #[] #[]] w λe w'=>e= .returned (.tuple #[])/\∃Y,DR w 92 g w' Y/\SStep Rc.id X Y 0 n/\AscIn Rc.id Y 0 n):=kA (zw6 g n cap 0 n X w hX hn om (zero_le _) (Nat.le_refl _));have h1:¬(20:Int)<=(n:Int):=om;have h2:¬(20:Int)<(n:Int):=om;clear hX hn;go_enter func266,ntmps266;go_wp2;refine wp_loop_rounds 1 ?_;rw[rounds_succ];go_wp2_with fail;refine HI.mono ?_;rintro e w1 ⟨rfl,Y,hd,hs,ha⟩;have HR:=kA (And.intro hd (And.intro hs ha));clear hd hs ha;go_wp2;refine wp_loop_rounds 1 ?_;rw[rounds_succ];go_wp2;go_end0;exact⟨rfl,Y,HR⟩
theorem zzb(g n cap:Nat)(X:List Rc)(w:World)(hX:MR 12 cRc 92 w g X)(hn:X.length=n)(Hy:n<=19):
  Calls prog 221 #[.slice (some ⟨g,0,none⟩) n cap,.func (.func 222) #[] #[]] w λe w'=>e= .returned (.tuple #[])/\∃Y,DR w 92 g w' Y/\Y.length=n/\Fil Rc.id X Y/\Asc Rc.id Y:=by
 have HS:=kA (zAr g n cap X w hX hn Hy);have HL:=kA hn;clear hX hn;go_enter func221,ntmps221;go_wp2_with fail;refine HS.mono ?_;rintro e w1 ⟨rfl,Y,hd,hs,ha⟩;have HD:=kA hd;have HR:=kA (And.intro (hs.len.trans HL) (And.intro hs.fil (AscIn.all (by rw[hs.len,HL.out];exact ha))));clear hd hs ha;go_wp2;go_end0;exact⟨rfl,Y,HD.out,HR⟩
theorem zAs(av:Option Addr)(n cap:Nat)(X:List Rc)(w:World)(row:zb4 w av n X)(hn:n<=19):
  Calls prog 140 #[.slice av n cap] w λe w'=>∃a' m cap' F,e= .returned (.slice a' m cap')/\zb4 w' a' m F/\m<=cap'/\cap'<=maxLen/\m<=n/\zdp F/\(∀k,look k F=look k X.reverse)/\Bw w w':=by
 have kG:=kA row.1;have DV:=kA (zkq av n cap X w row om);clear row;go_enter func140,ntmps140;go_wp2_with fail;refine DV.mono ?_;rintro e w1 ⟨v,rfl,ho,hb⟩;have HB:=kA hb;clear hb DV;rcases eq_zero_or_pos n with rfl | hpos
 ·have hX:X=[]:=eq_nil_of_length_eq_zero kG;subst hX;obtain⟨a,c,rfl,hc,Kf,hr⟩:=ho.row zaC;have HR:=kA (And.intro hr Kf);clear ho hr Kf;rw[length_nil]at HR ⊢;go_wp2_with fail;refine (ztW a c w1).mono ?_;rintro e w2 ⟨rfl,rfl⟩;go_wp2_with fail;refine (zrq a c w1).mono ?_;rintro e w2 ⟨rfl,rfl⟩;go_wp2_with fail;refine (zrt a c _ w1).mono ?_;rintro e w2 ⟨rfl,rfl⟩;go_wp2;go_ret;exact⟨a,0,c,[],rfl,HR.1,zero_le _,HR.2,Nat.le_refl _,List.Pairwise.nil,λk=>rfl,HB⟩
 ·obtain⟨g,c,rfl,hg,hc,Kf,hm⟩:=ho.mr (by rw[kG.out];exact hpos);rw[kG.out]at hc ⊢;have dQ:=kA (zw5 g n c X w1 hm kG om);have HG:=kA hg;clear ho hm hg;go_wp2_with fail;refine dQ.mono ?_;rintro e w2 ⟨rfl,hd⟩;have HD:=kA hd;have dx:=kA (zzb g n c X.reverse w2 hd.1 (by rw[length_reverse];exact kG) hn);clear hd dQ;go_wp2_with fail;refine dx.mono ?_;rintro e w3 ⟨rfl,Y,hd,hl,hf,ha⟩;have dl:=kA (HD.next hd);have HY:=kA (And.intro hl (And.intro hf ha));have Xl:=kA (ztZ g n c Y w3 hd.1 hl om hpos hc Kf);clear hd hl hf ha dx HD;go_wp2_with fail;refine Xl.mono ?_;rintro e w4 ⟨m,rfl,hl,hd⟩;have R9:=kA (dl.next hd);have HM:=kA hl;clear hd hl Xl dl;go_wp2;go_ret;obtain⟨y1,y2,y3⟩:=HY;obtain⟨r1,_,r3⟩:=zrr y3 n om;have ku:=ziZ Y n om;refine⟨_,m,c,zbc Y n,rfl,?_,by rw[<-HM.out];omega,Kf,by rw[<-HM.out];omega,r1,λk=> ?_,?_⟩
  ·rw[<-HM.out];exact R9.1.row om
  ·rw[r3,take_of_length_le om];exact ztX y2 k
  ·exact zaO HB R9.2 (λb e=>by injection e with e;rw[<-e];exact HG)
theorem zuJ(aL:Option Addr)(nL cL:Nat)(L:List Rc)(aX:Option Addr)(nX cX:Nat)(X:List Rc)(w:World)(rL:zb4 w aL nL L)(rX:zb4 w aX nX X)(BP:nL<=cL)(BQ:cL<=maxLen)(hL:zdp L)(hn:nX+nL<=2000)(hx:nX<=19):
  Calls prog 76 #[.slice aL nL cL,.slice aX nX cX] w λe w'=>∃v R,e= .returned v/\zvu w w' nX nL v L X R/\Bw w w':=by
 have dM:=kA (zAs aX nX cX X w rX om);have HR:=kA rL;have HL:=kA hL;clear rX rL hL;go_enter func76,ntmps76;go_wp2_with fail;refine dM.mono ?_;rintro e w1 ⟨a1,m,c1,F,rfl,hr,hm,Kf,ZS,Zd,dd,hb⟩;have HB:=kA hb;have d9:=kA dd;have tc:=kA (zxb a1 m c1 F aL nL cL L w1 hr (HR.keep hb) hm Kf BP BQ Zd HL om);clear hr hm Kf Zd dd hb dM;go_wp2_with fail;refine tc.mono ?_;rintro e w2 ⟨v,R,rfl,ho,hl,hr,hk,hb⟩;have HA:Hid (zvu w w2 nX nL v L X R/\Bw w w2):=kA ⟨⟨ho.low HB.size,om,hr,λk=>by rw[hk k,d9 k]⟩,zad HB hb⟩;clear ho hl hr hk hb tc;go_wp2;go_ret;exact⟨v,R,rfl,HA⟩
end Go.Proofs.YtlibdcmcbinfnaaGreat
