/- Lemmas. -/
import Derived.Test.YtlibdcmcbinfnaaGreatMS33
set_option maxHeartbeats 100000000
set_option maxRecDepth 1000000
namespace Go.Proofs.YtlibdcmcbinfnaaGreat
open _root_.Go.Proofs.Tryz List Nat
open Go.RowKit
theorem pxs(P:PT):PXs (pl P):=⟨zcu _,zaJ _,zbL _,zc8 _⟩
variable{a i g p mb k:Nat}{w w' w1:World}{S:St}{ls lt:Nat->Int}{F:Nat->Prop}{x id:Int}{ch:List (Int × Int)}{P:PT}{ts:Nat->Option Nat}{Lf:Nat->Nat->Prop}{gv:Value}{lab:Nat->Nat}{xs:List Int}
section
variable {w:World} {g p mb:Nat} {S:St} {ls lt:Nat->Int} {ts:Nat->Option Nat} {Lf:Nat->Nat->Prop} {gv:Value} {lab:Nat->Nat} {F:Nat->Prop}
theorem LM.added(h:LM w g S p mb ls lt ts Lf gv lab)(hF:∀b,F b↔zc1 g p mb Lf gv b){i:Nat}(hi:i<32)(kY:ts i=some a)(hR:(S.T i).length<=1000)(id:Int)(P:PT):
  Calls prog 180 #[.pointer (some ⟨a,0,none⟩),.int .i64 id,.agg (pl P).toArray] w λe w'=>∃x y:Int,e= .returned (.tuple #[.int .i64 x,.int .i64 y])/\CM w w' g F { S with T:=upf S.T i (zjq i (S.T i) id P) } ls lt:=by
 have ht:=h.tab i hi;rw[kY]at ht;refine (znF w a (Lf i) i (S.T i) id P hR ht).mono ?_;rintro e w' ⟨L',rfl,t1,t2,t3⟩;exact⟨_,_,rfl,h.tabled hF hi kY t1 t2 t3⟩
theorem CM.blk(h:CM w w' g F S ls lt){b:Nat}(hb:b<w.heap.size)(hn:¬F b):w'.heap[b]? =w.heap[b]? :=by
 obtain⟨F',h1,h2,h3⟩:=h;exact h2.2.2.2.2 b hb hn
theorem znJ(h0:LB w g F S ls lt)(id:Int)(ho:zel id=true)(P:PT){i:Nat}(hi:i<32)(hP:P.1=(i:Int))(hR:(S.T i).length<=1000):
  Calls prog 112 #[.pointer (some ⟨g,0,none⟩),.int .i64 id,.agg (pl P).toArray] w λe w'=>e= .returned (.tuple #[])/\CM w w' g F { S with T:=upf S.T i (zjq i (S.T i) id P) } (upf ls (id % 256).toNat i) (upf lt (id % 256).toNat S.now):=by
 obtain⟨k,hk,xA,xJ⟩:=znI ho;have CU:=kA xJ;rw[xA];have YU:(pl P)[0]? =some (.int .i64 (i:Int)):=by rw[<-hP];rfl
 obtain⟨U,hU⟩:∃U,U=(w.alloc (.cells (pl P).toArray 52)):=⟨_,rfl⟩;have Va:Bw w U:=by rw[hU];exact zaa _ _
 obtain⟨S1,xL⟩:∃S1,S1={ S with T:=upf S.T i (zjq i (S.T i) id P) }:=⟨_,rfl⟩;have xM:S1.now=S.now:=by rw[xL]
 have Yj:¬F w.heap.size:=by
  obtain⟨p,mb,ts,Lf,gv,lab,h,hF⟩:=h0;exact λc=>by have:=h.inb _ ((hF _).1 c);omega
 have YV:Hid (Calls prog 179 #[.pointer (some ⟨g,0,none⟩),.int .i64 i] U.drew λe w1=>∃a,e= .returned (.pointer (some ⟨a,0,none⟩))/\w1.heap[w.heap.size]? =U.heap[w.heap.size]?/\Calls prog 180 #[.pointer (some ⟨a,0,none⟩),.int .i64 id,.agg (pl P).toArray] w1 λe w2=>∃x y:Int,e= .returned (.tuple #[.int .i64 x,.int .i64 y])/\CM U w2 g F S1 ls lt/\w2.heap[w.heap.size]? =U.heap[w.heap.size]?):=kA (by
  obtain⟨p,mb,ts,Lf,gv,lab,h,hF⟩:=h0;have Kl:Bw U U.drew:=za5 (Below.refl _ _);refine (zrS ((h.keep Va).keep Kl) hF hi).mono ?_;rintro e w1 ⟨a,jy,ZH,de,rfl,kY,h1,h2,h3⟩;have hw:w.heap.size<U.heap.size:=by rw[hU];simp
  have Kf:CM U w1 g F S ls lt:=CM.of ⟨zc1 g p mb ZH gv,⟨p,mb,jy,ZH,gv,de,h1,λ_=>Iff.rfl⟩,h2,h3⟩ Kl;refine⟨a,rfl,Kf.blk hw Yj,?_⟩;refine (h1.added (λ_=>Iff.rfl) hi kY hR id P).mono ?_;rintro e w2 ⟨x,y,rfl,h4⟩;have qX:CM U w2 g F S1 ls lt:=by
   rw[xL];exact (CM.join h2 h3 h4).of Kl
  exact⟨x,y,rfl,qX,qX.blk hw Yj⟩)
 obtain⟨X,hX⟩:∃X,X=pl P:=⟨_,rfl⟩;have HX:Hid (PXs X):=kA (by rw[hX];exact pxs P);rw[<-hX]at YV YU hU ⊢;rw[<-xL];have r8:Blk U w.heap.size 52 X.toArray:=by rw[hU];exact Blk.new w _ _
 have YW:Hid (∀u:World,u.heap[w.heap.size]? =U.heap[w.heap.size]?->u.rangeAt w.heap.size 0 X/\u.cell? ⟨w.heap.size,0,none⟩=some (.int .i64 (i:Int))/\w.heap.size<u.heap.size):=kA (λu e=>by
  have hb:=r8.same e;refine⟨zac hb,?_,hb.lt⟩;rw[hb.cell]
  simpa using YU)
 have bZ:=kA Va;have NG:=kA Yj;have qY:=kA xM;have NH:=kA h0;have cj:=h0.inH;have HU:=kA hU;clear hU h0 hX xL r8 Va Yj xM hR hP xJ ho xA YU;go_enter func112,ntmps112;go_upto_region 1 with fail;refine fin (λW=>W=U) HU.symm ?_;rintro W rfl;clear HU;obtain⟨U,Ba⟩:∃U,U=W:=⟨_,rfl⟩;subst Ba;obtain⟨q1,q2,q3⟩:=YW.out U rfl;refine wp_region_held_drew (S:=λw'=>w'.cell? ⟨w.heap.size,0,none⟩=some (.int .i64 (i:Int))/\w'.rangeAt w.heap.size 0 X) oM (⟨q2,q1⟩) (λhHeld=> ?_);refine tk 0 hHeld ?_;refine tk 1 hHeld ?_;refine wpAnyH_take (i:=2) (v:= ?_) rfl oM oM oM (λ_ _ _ h=>h) (.inl ⟨by rfl,?_⟩) hHeld ?_
 rotate_left
 ·intro w dq;have hc:=dq.1;go_simp
  with_reducible rfl
 simp only[Act.put,getElem_toArray,getElem_cons_zero,getElem_cons_succ,setIfInBounds_toArray,set_cons_zero,set_cons_succ];refine tk 4 hHeld ?_;refine tkl 5 rfl (yieldsIf_load_mid (by rfl) _ _ rfl _ _ rfl _ _ (λ_ h=>h.2) underlying52 rfl HX.2.1) hHeld ?_;refine rd 3 (λK hK=> ?_);go_simp
 go_at_call 179
 refine (YV.out).mono ?_;rintro e w1 ⟨a,rfl,e1,DI⟩;have Kz:=kA e1;have HAdd:=kA DI;clear e1 DI;go_wp2_with fail;refine hK.out _ _ (⟨(YW _ Kz).2.1,(YW _ Kz).1⟩) (λhHeld=> ?_);clear hK K;refine rd 6 (λK hK=> ?_);go_simp
 go_at_call 180
 refine (HAdd.out).mono ?_;rintro e w2 ⟨x,y,rfl,Kf,e2⟩;have dR:=kA e2;have j6:=kA Kf;clear e2 Kf;go_wp2_with fail;refine hK.out _ _ (⟨(YW _ dR).2.1,(YW _ dR).1⟩) (λhHeld=> ?_);clear hK K;refine wpAnyH_done oM ?_ _;refine fin (λW=>W=w2) rfl ?_;rintro W rfl;obtain⟨F',⟨p,mb,ts,Lf,gv,lab,h,hF⟩,kE,Dm⟩:=j6;obtain⟨r1,cb,r3⟩:=YW.out _ dR;have c2:=h.c2;rw[qY.out]at c2;have cs:=h.cS hk;have ct:=h.cT hk;have fs:=h.row.frozen (3+k*2);have ft:=h.row.frozen (3+k*2+1);have HH:=kA h;have Xw:=kA (And.intro hF (And.intro kE Dm));have k0:(0:Int)<=(k:Int):=om;have k1:(k:Int)<256:=om;have rY:g<W.heap.size:=h.row.lt;have Ho:g≠w.heap.size:=om;have xN:=(h.row.set (3+k*2) (.int .i64 (i:Int))).set (3+k*2+1) (.int .i64 S.now)
 have Yy:Hid (((W.setCell ⟨g,3+k*2,none⟩ (.int .i64 (i:Int))).setCell ⟨g,3+k*2+1,none⟩ (.int .i64 S.now)).drew.cell? ⟨w.heap.size,0,none⟩=some (.int .i64 (i:Int))/\((W.setCell ⟨g,3+k*2,none⟩ (.int .i64 (i:Int))).setCell ⟨g,3+k*2+1,none⟩ (.int .i64 S.now)).drew.cell? ⟨g,2,none⟩=some (.int .i64 S.now)):=kA ⟨by
  refine (YW _ ?_).2.1;refine Eq.trans ?_ dR;show ((W.setCell ⟨g,3+k*2,none⟩ (.int .i64 (i:Int))).setCell ⟨g,3+k*2+1,none⟩ (.int .i64 S.now)).heap[w.heap.size]? =_;rw[Go.Deep.blk_setCell_other _ _ _ _ (by show w.heap.size≠g;omega),Go.Deep.blk_setCell_other _ _ _ _ (by show w.heap.size≠g;omega)],by
  have:=xN.drew.cell (i:=2) om;rw[this,if_neg om,if_neg om];show some (lF p mb S1.now ls lt gv 2)=_
  rw[<-qY.out];rfl⟩
 have H7:Hid (((W.setCell ⟨g,3+k*2,none⟩ (.int .i64 (i:Int))).setCell ⟨g,3+k*2+1,none⟩ (.int .i64 S.now)).drew.rowIs g 138 516 (lF p mb S1.now (upf ls k i) (upf lt k S.now) gv)):=kA (xN.drew.congr (λj hj=>by
  rw[<-zky hk,<-zuf hk]))
 clear h hF kE Dm r1 xN;go_wp2
 go_region_held3 (λw'=>w'.cell? ⟨w.heap.size,0,none⟩=some (.int .i64 (i:Int))/\w'.cell? ⟨g,2,none⟩=some (.int .i64 S.now)) (first | exact⟨cb,c2⟩ | exact Yy.out | go_keep)
  (first | (go_at_call 108;refine (CU _).mono ?_;rintro e w3 ⟨rfl,rfl⟩))
 go_wp2;go_end0;refine⟨rfl,?_⟩;refine CM.of (w1:=U) ?_ bZ;have qZ:=LM.cells (F:=F') HH Xw.1 (now':=S1.now) (zap (zaR W g _ _) (zaR _ g _ _)) H7;exact CM.join Xw.2.1 Xw.2.2 (qZ.back (za5 (Below.refl _ _)))
end
structure LI (S:St) (ls lt:Nat->Int):Prop where
 set_:∀x P,inS S x P->ls (x % 256).toNat=P.1
 chm:∀x,zai S x=true->(x,lt (x % 256).toNat)∈S.ch
 chn:(S.ch.map Prod.fst).Nodup
 gop:S.go.Pairwise (λa b=>a.2<=b.2)
 gon:∀x∈S.go,x.2<=S.now
def LSB(w:World)(g:Nat)(F:Nat->Prop)(S:St):Prop:=∃ls lt,LB w g F S ls lt/\LI S ls lt
theorem zjd{G:Nat->Int}{L:Nat->Bool}{y:Int}(hx:zbO G L x=true)(hy:zbO G L y=true)(e:(x % 256).toNat=(y % 256).toNat):x=y:=by
 obtain⟨x0,_,_,x3⟩:=zaU.1 hx;obtain⟨y0,_,_,y3⟩:=zaU.1 hy;rw[e]at x3;omega
theorem zje(h:zai S x=true):zel x=true:=by
 obtain⟨x0,x1,_⟩:=zaU.1 h;unfold zel;rw[decide_eq_true x0,decide_eq_true x1];rfl
theorem znK(h:(ch.map Prod.fst).Nodup)(id now:Int):((zb8 ch id now).map Prod.fst).Nodup:=by
 unfold zb8;rw[map_append];refine nodup_append.2 ⟨List.Nodup.sublist (List.Sublist.map _ filter_sublist) h,by simp,λa ha b hb e=> ?_⟩;obtain⟨y,hy,rfl⟩:=mem_map.1 ha;rw[mem_filter]at hy;simp at hb;rw[e,hb]at hy;simp at hy
theorem znL{now t:Int}(h:(x,t)∈ch)(hn:x≠id):(x,t)∈zb8 ch id now:=by
 unfold zb8;rw[mem_append,mem_filter];exact .inl ⟨h,by simpa using hn⟩
section
variable {S S':St} {ls lt:Nat->Int}
theorem LI.put(h:LI S ls lt)(hW:WS S)(YX:WS S'){id:Int}{P:PT}(hin:∀x Q,inS S' x Q↔(inS S x Q/\x≠id)∨(x=id/\Q=P))(xM:S'.now=S.now)(Hg:S'.ch=zb8 S.ch id S.now)(hgo:S'.go=S.go):LI S' (upf ls (id % 256).toNat P.1) (upf lt (id % 256).toNat S.now):=by
 have hid:zai S' id=true:=(YX.live id).2 ⟨P,(hin id P).2 (.inr ⟨rfl,rfl⟩)⟩;have M2:∀x,zai S' x=true->x≠id->(x % 256).toNat≠(id % 256).toNat:=λx hx hn e=>hn (zjd hx hid e);refine⟨λx Q hx=> ?_,λx hx=> ?_,by rw[Hg];exact znK h.chn _ _,by rw[hgo];exact h.gop,by rw[hgo,xM];exact h.gon⟩
 ·have hl:zai S' x=true:=(YX.live x).2 ⟨Q,hx⟩;unfold upf;rcases (hin x Q).1 hx with ⟨h1,h2⟩ | ⟨rfl,rfl⟩
  ·rw[if_neg (M2 x hl h2)];exact h.set_ x Q h1
  ·rw[if_pos rfl]
 ·unfold upf;rw[Hg];obtain⟨Q,hQ⟩:=(YX.live x).1 hx;rcases (hin x Q).1 hQ with ⟨h1,h2⟩ | ⟨rfl,rfl⟩
  ·rw[if_neg (M2 x hx h2)];exact znL (h.chm x ((hW.live x).2 ⟨Q,h1⟩)) h2
  ·rw[if_pos rfl];exact zeH _ _ _
theorem LI.cut(h:LI S ls lt)(hW:WS S)(YX:WS S'){id:Int}(hin:∀x Q,inS S' x Q↔inS S x Q/\x≠id)(xM:S'.now=S.now)(Hg:S'.ch=S.ch)(hgo:S'.go=S.go++[(id,S.now)]):LI S' ls lt:=by
 refine⟨λx Q hx=>h.set_ x Q ((hin x Q).1 hx).1,λx hx=> ?_,by rw[Hg];exact h.chn,?_,?_⟩
 ·obtain⟨Q,hQ⟩:=(YX.live x).1 hx;rw[Hg];exact h.chm x ((hW.live x).2 ⟨Q,((hin x Q).1 hQ).1⟩)
 ·rw[hgo];exact pairwise_append.2 ⟨h.gop,by simp,λa ha b hb=>by simp at hb;rw[hb];exact h.gon a ha⟩
 ·rw[hgo,xM];intro x hx;rw[mem_append]at hx;rcases hx with hx | hx
  ·exact h.gon x hx
  ·simp at hx;rw[hx];exact Int.le_refl _
theorem LI.mark_(h:LI S ls lt){id:Int}(hl:zai S id=true):LI (to1 S id) ls (upf lt (id % 256).toNat S.now):=by
 have e:to1 S id={ S with ch:=zb8 S.ch id S.now }:=by unfold to1;rw[if_pos hl]
 rw[e];refine⟨h.set_,λx hx=> ?_,znK h.chn _ _,h.gop,h.gon⟩;have hx':zai S x=true:=hx;show (x,upf lt (id % 256).toNat S.now (x % 256).toNat)∈zb8 S.ch id S.now;unfold upf
 by_cases c:x=id
 ·rw[if_pos (by rw[c]),c];exact zeH _ _ _
 ·rw[if_neg (λe=>c (zjd hx' hl e))];exact znL (h.chm x hx') c
theorem LI.ne(h:LI S ls lt):LI (neS S) ls lt:=⟨h.set_,h.chm,h.chn,h.gop,λx hx=>by have:=h.gon x hx;show x.2<=S.now+1;omega⟩
theorem zkz(hW:WS S)(id:Int):zcF S id=zai S id:=by
 cases c:zai S id with
 | true=>exact zd4.2 ((hW.live id).1 c)
 | false=>
  cases d:zcF S id with
  | false=>rfl
  | true=>exact absurd ((hW.live id).2 (zd4.1 d)) (by rw[c];simp)
theorem zjf(hW:WS S){id:Int}{i:Nat}(ha:atS S id=some i):zai S id=true:=by
 rw[<-zkz hW];unfold zcF;rw[ha];rfl
theorem zrT(hW:WS S){id:Int}(ha:atS S id=none):zai S id=false:=by
 rw[<-zkz hW];unfold zcF;rw[ha];rfl
end
theorem LM.there(h:LM w g S p mb ls lt ts Lf gv lab)(hI:LI S ls lt)(hW:WS S){id:Int}{i:Nat}(ha:atS S id=some i):
  zel id=true/\i<32/\ls (id % 256).toNat=(i:Int)/\∃a,ts i=some a:=by
 obtain⟨hi,hh⟩:=zcX ha;have hg:=zgI hW ha;have hP:(zby S id).1=(i:Int):=(zds.1 (hW.fit i hi _ hg)).2;refine⟨zje (zjf hW ha),hi,by rw[hI.set_ id _ ⟨i,hi,hg⟩,hP],?_⟩;have ht:=h.tab i hi
 cases kY:ts i with
 | some a=>exact⟨a,rfl⟩
 | none=>
  rw[kY]at ht;rw[ht.1]at hg
  cases hg
theorem LSB.of_cm(h:CM w w' g F S ls lt)(hI:LI S ls lt):Chg LSB w w' g F S:=by
 obtain⟨F',h1,h2,h3⟩:=h;exact⟨F',⟨ls,lt,h1,hI⟩,h2,h3⟩
theorem LSB.still(h:LSB w g F S)(hb:Bw w w'):Chg LSB w w' g F S:=by
 obtain⟨ls,lt,h1,h2⟩:=h;exact LSB.of_cm (CM.still h1 hb) h2
theorem LSB.keep(h:LSB w g F S)(hb:Bw w w'):LSB w' g F S:=by
 obtain⟨ls,lt,h1,h2⟩:=h;exact⟨ls,lt,h1.keep hb,h2⟩
theorem LSB.inH(h:LSB w g F S):g<w.heap.size:=by
 obtain⟨ls,lt,h1,h2⟩:=h;exact h1.inH
theorem LSB.live(h:LSB w g F S):∃p,w.cell? ⟨g,0,none⟩=some (.pointer (some ⟨p,0,none⟩))/\(∀id,Calls prog 61 #[.pointer (some ⟨p,0,none⟩),.int .i64 id] w λe w'=>e= .returned (.bool (zai S id))/\Bw w w')/\(POk S.room S.G S.L->Calls prog 161 #[.pointer (some ⟨p,0,none⟩)] w λe w'=>∃a cap,e= .returned (.slice a (alS S).length cap)/\Row w' a (alS S).length (alS S)/\Bw w w'):=by
 obtain⟨ls,lt,⟨p,mb,ts,Lf,gv,lab,h1,hF⟩,h2⟩:=h;exact⟨p,h1.c0,λid=>zuc p S.room S.G S.L id w h1.pool,λhp=>qall p S.room S.G S.L w hp h1.pool⟩
theorem zy5(W:World):(Instr.build 52 #[]).run prog W= .ok (.agg (pl zT).toArray) W:=oM
theorem zl5{ops:Array Oper}{rest:List Oper}{op:Oper}{a:Go.Act}{Q:Exit->Go.Act->World->Prop}(kX:op.guard=none)(t:TypeId)(ho:op.op= .build t #[])(vr:Value)
  (Hi:∀W,(Instr.build t #[]).run prog W= .ok vr W)
  (h:wpList prog ops Q rest (a.put op.dst vr) w):wpList prog ops Q (op::rest) a w:=
 wpList_plain kX λK hK=>by
  have h2:=hK _ _ h;unfold Oper.wp execOp;simp only[ho];simp[Hi];exact h2
theorem znM(h0:LSB w g F S)(hW:WS S)(hB:Bd S 1000)(id:Int):
  Calls prog 213 #[.pointer (some ⟨g,0,none⟩),.int .i64 id] w λe w'=>∃Y,e= .returned (.tuple #[.agg (toArray Y),.bool (zcF S id)])/\Y=pl (zby S id)/\Bw w w':=by
 obtain⟨p,c0,CV,_⟩:=h0.live
 have dB:Hid (∀u,Bw w u->Calls prog 61 #[.pointer (some ⟨p,0,none⟩),.int .i64 id] u λe w'=>e= .returned (.bool (zai S id))/\Bw u w'):=kA (λu k=>by
  obtain⟨p',XL,Vb,_⟩:=(h0.keep k).live;rw[zam c0 k]at XL;injection XL with XL;injection XL with XL;injection XL with XL;injection XL with XL;rw[XL]
  exact Vb id)
 have ko:=kA (pxs (zby S id));have hg:=h0.inH;have K4:=kA (Blk.new w 52 Z24.toArray);have kP:Hid (Bw w (w.alloc (.cells Z24.toArray 52))):=kA (zaa _ _);have c4:=zam c0 kP;clear c0 CV
 cases ha:atS S id with
 | none=>
  have e3:zcF S id=false:=by unfold zcF;rw[ha];rfl
  have e4:zby S id=zT:=by unfold zby;rw[ha]
  rw[zrT hW ha]at dB;rw[e3];have Ko:Hid (∀W,(Instr.build 52 #[]).run prog W= .ok (.agg (pl (zby S id)).toArray) W):=kA (by rw[e4];exact zy5);obtain⟨Xp,Hz⟩:∃Xp,Xp=pl (zby S id):=⟨_,rfl⟩;rw[<-Hz]at ko Ko ⊢;clear Hz e3 e4 ha h0 hW hB;go_enter func213,ntmps213;go_upto_region 1 with fail;refine fin (λW=>Blk W w.heap.size 52 Z24.toArray/\Bw w W/\W.cell? ⟨g,0,none⟩=some (.pointer (some ⟨p,0,none⟩))) ⟨K4,kP.out,c4⟩ ?_;clear K4 kP c4;rintro W0 ⟨k4,b4,c4⟩;have K4:=kA k4;have kP:=kA b4;have zg:g<W0.heap.size:=Nat.lt_of_lt_of_le hg b4.size;clear k4 b4;go_wp2_with fail;refine (dB _ kP).mono ?_;rintro e w1 ⟨rfl,b1⟩;replace K4:=kA (Blk.keep K4 b1);replace kP:=kA (zad kP b1);have Ka:Hid (w1.there w.heap.size 0 Xp.toArray.size):=kA (zae K4 (by rw[size_toArray,ko.1];exact Nat.le_refl 24));have L4:Hid (Blk (w1.setCells w.heap.size 0 Xp) w.heap.size 52 Xp.toArray):=kA (zal K4 (by rw[ko.1];rfl));have z1:=K4.lt;clear b1;go_wp2_with (first | refine zl5 rfl 52 rfl (.agg Xp.toArray) Ko ?_ | refine wpList_store_mid rfl 52 (.tmp 4) (.tmp 22) rfl w.heap.size 0 Xp.toArray rfl rfl Ka ko.2.2.1 ko.2.2.2 ?_)
  refine fin (λW=>Blk W w.heap.size 52 Xp.toArray/\Bw w W) ⟨L4,zab _ kP (Nat.le_refl _)⟩ ?_;rintro W ⟨kr,hb⟩;have hl:=run_loadVar_mid W w.heap.size 0 52 Xp _ (zac kr) underlying52 rfl ko.2.1
  try simp only[Go.Act.put,setIfInBounds_toArray,set_cons_zero,set_cons_succ]
  exact bodyPost_ret (v:= .tuple #[.agg Xp.toArray,.bool false]) (zan results213 rfl rfl hl) rfl ⟨Xp,rfl,rfl,hb⟩
 | some i=>
  have e3:zcF S id=true:=by unfold zcF;rw[ha];rfl
  obtain⟨hi,hh⟩:=zcX ha;obtain⟨r,j7,kE,ck,hin⟩:=zf7 (hW.nod i hi) hh;have e4:zby S id=((S.T i).getD (zaB (S.T i) id).toNat d0).2:=by unfold zby;rw[ha]
  rw[zjf hW ha]at dB;rw[e3];obtain⟨ls,lt,⟨p2,mb,ts,Lf,gv,lab,h,hF⟩,hI⟩:=h0;obtain⟨ho,_,yl,a,kY⟩:=h.there hI hW ha;have Kn:Hid (∀u,Bw w u->Calls prog 185 #[.pointer (some ⟨g,0,none⟩),.int .i64 id] u λe w'=>e= .returned (.tuple #[.pointer (some ⟨a,0,none⟩),.int .i64 (zaB (S.T i) id)])/\Bw u w'):=kA (λu k=>zhj (h.keep k) id ho hi yl kY (hB.2.2.1 i hi))
  have Vd:Hid (∀u,Bw w u->Calls prog 262 #[.pointer (some ⟨a,0,none⟩),.int .i64 (zaB (S.T i) id)] u λe w'=>∃x:Int,e= .returned (.tuple #[.int .i64 x,.agg (pl (zby S id)).toArray,.bool true])/\Bw u w'):=kA (λu k=>by
   have ht:=(h.keep k).tab i hi;rw[kY]at ht;refine (znH u a (Lf i) i (S.T i) (zaB (S.T i) id) (hB.2.2.1 i hi) ht).mono ?_;rintro e w' ⟨x,P,rfl,q1,q2⟩;have:=q1 hin;refine⟨x,?_,q2⟩
   rw[hin,e4,<-this])
  obtain⟨Xp,Hz⟩:∃Xp,Xp=pl (zby S id):=⟨_,rfl⟩;rw[<-Hz]at ko Vd ⊢;obtain⟨q,hq⟩:∃q,q=zaB (S.T i) id:=⟨_,rfl⟩;rw[<-hq]at Kn Vd;clear Hz hq e3 e4 ha hW hB hh j7 kE ck hin h hF hI ho yl kY;go_enter func213,ntmps213;go_upto_region 1 with fail;refine fin (λW=>Blk W w.heap.size 52 Z24.toArray/\Bw w W/\W.cell? ⟨g,0,none⟩=some (.pointer (some ⟨p,0,none⟩))) ⟨K4,kP.out,c4⟩ ?_;clear K4 kP c4;rintro W0 ⟨k4,b4,c4⟩;have K4:=kA k4;have kP:=kA b4;have zg:g<W0.heap.size:=Nat.lt_of_lt_of_le hg b4.size;clear k4 b4;go_wp2_with fail;refine (dB _ kP).mono ?_;rintro e w1 ⟨rfl,b1⟩;replace K4:=kA (Blk.keep K4 b1);replace kP:=kA (zad kP b1);clear b1 c4;go_wp2_with fail;refine (Kn _ kP).mono ?_;rintro e w2 ⟨rfl,b1⟩;replace K4:=kA (Blk.keep K4 b1);replace kP:=kA (zad kP b1);clear b1;go_wp2_with fail;refine (Vd _ kP).mono ?_;rintro e w3 ⟨x,rfl,b1⟩;replace K4:=kA (Blk.keep K4 b1);replace kP:=kA (zad kP b1);clear b1;have KA:=kA (Blk.new w3 52 Z24.toArray);have Xy:Hid ((w3.alloc (.cells Z24.toArray 52)).there w3.heap.size 0 Xp.toArray.size):=kA (zae KA (by rw[size_toArray,ko.1];exact Nat.le_refl 24));have xO:Hid (Bw w3 ((w3.alloc (.cells Z24.toArray 52)).setCells w3.heap.size 0 Xp)):=kA (zab Xp (zaa _ _) (Nat.le_refl _))
  have LA:Hid (Blk ((w3.alloc (.cells Z24.toArray 52)).setCells w3.heap.size 0 Xp) w3.heap.size 52 Xp.toArray):=kA (by
   have:=zaf Xp (o:=0) KA (by rw[ko.1];exact Nat.le_refl 24)
   rwa [zao (by rw[ko.1];rfl)]at this)
  go_upto_region 5 with (refine wpList_store_mid rfl 52 (.tmp 9) (.tmp 34) rfl w3.heap.size 0 Xp.toArray rfl rfl Xy ko.2.2.1 ko.2.2.2 ?_);refine fin (λW=>Blk W w3.heap.size 52 Xp.toArray/\Blk W w.heap.size 52 Z24.toArray/\Bw w W) ⟨LA,Blk.keep K4 xO,zad kP xO⟩ ?_;obtain⟨g9,CS⟩:∃g9,g9=w3.heap.size:=⟨_,rfl⟩;rw[<-CS];clear KA Xy xO LA kP CS K4;rintro W ⟨k9,k4,hb⟩;have K9:=kA (zac k9);have z9:=k9.lt;have z4:=k4.lt;have j3:=kA hb;have Ka:Hid (W.there w.heap.size 0 Xp.toArray.size):=kA (zae k4 (by rw[size_toArray,ko.1];exact Nat.le_refl 24));have L4:Hid (Blk (W.setCells w.heap.size 0 Xp) w.heap.size 52 Xp.toArray):=kA (zal k4 (by rw[ko.1];rfl));clear k9 k4 hb;go_wp2_with (first | refine wpList_load_mid rfl 52 (.tmp 9) rfl g9 0 rfl Xp _ K9 underlying52 rfl ko.2.1 ?_ | refine wpList_store_mid rfl 52 (.tmp 4) (.tmp 36) rfl w.heap.size 0 Xp.toArray rfl rfl Ka ko.2.2.1 ko.2.2.2 ?_)
  refine fin (λW=>Blk W w.heap.size 52 Xp.toArray/\Bw w W) ⟨L4,zab _ j3 (Nat.le_refl _)⟩ ?_;rintro W2 ⟨kr,hb⟩;have hl:=run_loadVar_mid W2 w.heap.size 0 52 Xp _ (zac kr) underlying52 rfl ko.2.1
  try simp only[Go.Act.put,setIfInBounds_toArray,set_cons_zero,set_cons_succ]
  exact bodyPost_ret (v:= .tuple #[.agg Xp.toArray,.bool true]) (zan results213 rfl rfl hl) rfl ⟨Xp,rfl,rfl,hb⟩
theorem zui(S:St)(x y:Int):zai (to1 S x) y=zai S y:=by unfold to1;split <;> rfl
theorem ze8:∀ (l:List Int) (S:St) (y:Int),zai (toS S l) y=zai S y
 | [],_,_=>rfl
 | x::l,S,y=>by
  show zai (toS (to1 S x) l) y=_;rw[ze8 l,zui]
theorem zrU(h:xs[k]? =some x):toS S (xs.take (k+1))=to1 (toS S (xs.take k)) x:=by
 unfold toS;rw[take_add_one,h,foldl_append];rfl
theorem zrV(h:xs[k]? =some x):toN S (xs.take (k+1))=toN S (xs.take k)+(if zai S x then 1 else 0):=by
 unfold toN;rw[take_add_one,h,filter_append,length_append]
 by_cases c:zai S x=true
 ·simp[c]
 ·simp[c]
theorem Chg.joins{w2:World}{F1:Nat->Prop}(hf:Fr w w1 F)(hn:∀b,F1 b->F b∨w.heap.size<=b)(k:Chg LSB w1 w2 g F1 S):Chg LSB w w2 g F S:=by
 obtain⟨F2,⟨ls,lt,h1,hI⟩,h2,h3⟩:=k;obtain⟨F3,q1,q2,q3⟩:=CM.join hf hn ⟨F2,h1,h2,h3⟩;exact⟨F3,⟨ls,lt,q1,hI⟩,q2,q3⟩
theorem LSB.ticked{u:World}(h:LSB u g F S){id:Int}(hl:zai S id=true):
  ∃k:Nat,k<256/\(∀w',Calls prog 108 #[.int .i64 id] w' λe dN=>e= .returned (.int .i64 (k:Int))/\w'=dN)/\u.cell? ⟨g,2,none⟩=some (.int .i64 S.now)/\(∃v,u.cell? ⟨g,3+k*2+1,none⟩=some (.int .i64 v))/\u.frozen? ⟨g,3+k*2+1,none⟩=false/\
   (u.setCell ⟨g,3+k*2+1,none⟩ (.int .i64 S.now)).drew.cell? ⟨g,2,none⟩=some (.int .i64 S.now)/\Chg LSB u (u.setCell ⟨g,3+k*2+1,none⟩ (.int .i64 S.now)).drew g F (to1 S id):=by
 obtain⟨ls,lt,⟨p,mb,ts,Lf,gv,lab,h1,hF⟩,hI⟩:=h;obtain⟨k,hk,xA,xJ⟩:=znI (zje hl);have hr:=h1.row.set (3+k*2+1) (.int .i64 S.now);refine⟨k,hk,xJ,h1.c2,⟨_,h1.cT hk⟩,h1.row.frozen _,?_,?_⟩
 ·rw[hr.drew.cell om,if_neg om];rfl
 ·have EA:=hI.mark_ hl;rw[xA]at EA;refine LSB.of_cm ?_ EA;have e:to1 S id={ S with ch:=zb8 S.ch id S.now }:=by unfold to1;rw[if_pos hl]
  rw[e];have hc:=LM.cells (F:=F) h1 hF (now':=S.now) (zaR u g _ _) (ls':=ls) (lt':=upf lt k S.now) (hr.congr (λj _=>zky hk _ j));obtain⟨F',⟨p',xo,jy,ZH,gv',de,q1,q2⟩,q3,q4⟩:=hc.back (w2:=(u.setCell ⟨g,3+k*2+1,none⟩ (.int .i64 S.now)).drew) (za5 (Below.refl _ _));exact⟨F',⟨p',xo,jy,ZH,gv',de,⟨q1.row,q1.pool,q1.map,q1.tab,q1.gos,q1.lg,q1.lp,q1.lm,q1.lv,q1.lT⟩,q2⟩,q3,q4⟩
theorem zia(h0:LSB w g F S)(a:Option Addr)(n cap:Nat)(xs:List Int)(hn:n<=1000)(row:Row w a n xs)(Kt:Aw F a n):
  Calls prog 65 #[.pointer (some ⟨g,0,none⟩),.slice a n cap] w λe w'=>e= .returned (.int .i64 (toN S xs:Nat))/\Chg LSB w w' g F (toS S xs):=by
 have hJ:=kA row;have Bb:=kA Kt;have HL:=kA row.1;have Hy:=row.2.1;have H0:=kA h0;clear row Kt h0;go_enter func65,ntmps65;go_wp2
 go_loopw [5,12] (λv5 i wr=>∃k:Nat,k<=n/\i= .int .i64 k/\v5= .int .i64 (toN S (xs.take k):Nat)/\Chg LSB w wr g F (toS S (xs.take k))) (λ_ i _=>n - (ivl i).toNat)
 case atStart=>exact⟨0,om,rfl,rfl,LSB.still H0 (Below.refl _ _)⟩
 case round=>
  obtain⟨k,hk,rfl,rfl,Hg⟩:=hrel;obtain⟨F1,yT,kE,xP⟩:=Hg;have DX:=kA yT;have Dn:=kA (And.intro kE xP);have hg:g<wr.heap.size:=yT.inH;clear kE xP
  by_cases hlt:k<n
  ·obtain⟨b,off,x,rfl,hx,cx⟩:=zch (zbI hJ Bb Dn.1) hlt;have hb:=World.block_lt_of_cell? _ _ cx;have k0:(0:Int)<=(k:Int):=om;have k1:(k:Int)<(n:Int):=om;have dK:=kA (zrU (S:=S) hx);have Xz:=kA (zrV (S:=S) hx);obtain⟨p,cp,CV,_⟩:=yT.live;have dB:=kA (CV x);rw[ze8]at dB;obtain⟨c,hc⟩:∃c,c=toN S (xs.take k):=⟨_,rfl⟩;have dj:c<=n:=by rw[hc];unfold toN;refine Nat.le_trans (length_filter_le _ _) ?_;rw[length_take];omega
   rw[<-hc]at Xz ⊢;clear CV hx hc yT
   cases ym:zai S x with
   | false=>
    have e1:Hid (toS S (xs.take (k+1))=toS S (xs.take k)):=kA (by rw[dK.out];unfold to1;rw[ze8,ym];rfl);rw[ym]at Xz dB;clear ym;go_wp2_with fail;refine dB.mono ?_;rintro e w1 ⟨rfl,b1⟩;have HC:Hid (Chg LSB w w1 g F (toS S (xs.take k))):=kA (Chg.joins Dn.1 Dn.2 (LSB.still DX b1));clear b1;go_wp2;go_roundw
    case rel=>exact⟨k+1,om,by go_num,by rw[Xz.out];rfl,by rw[e1.out];exact HC.out⟩
    case measure=>simp[ivl] <;> omega
   | true=>
    have Zj:Hid (zai (toS S (xs.take k)) x=true):=kA (by rw[ze8,ym]);rw[ym]at Xz dB;clear ym;go_wp2_with fail;refine dB.mono ?_;rintro e w1 ⟨rfl,b1⟩;obtain⟨j,hj,xJ,c2,⟨v,ct⟩,ft,jz,KU⟩:=(DX.keep b1).ticked Zj.out;have CU:=kA xJ
    have HC:Hid (Chg LSB w (w1.setCell ⟨g,3+j*2+1,none⟩ (.int .i64 (toS S (xs.take k)).now)).drew g F (toS S (xs.take (k+1)))):=kA (by
     rw[dK.out]
     exact Chg.joins (Fr.behind Dn.1 b1) Dn.2 KU)
    obtain⟨now,xM⟩:∃now,now=(toS S (xs.take k)).now:=⟨_,rfl⟩;rw[<-xM]at c2 jz HC;have DT:g<w1.heap.size:=Nat.lt_of_lt_of_le hg b1.size;have j0:(0:Int)<=(j:Int):=om;have j1:(j:Int)<256:=om;have Kp:=kA jz;clear b1 KU xJ xM jz cp cx;go_wp2
    go_region_held3 (λw'=>w'.cell? ⟨g,2,none⟩=some (.int .i64 now)) (first | exact c2 | exact Kp.out | go_keep)
     (first | (go_at_call 108;refine (CU _).mono ?_;rintro e w3 ⟨rfl,rfl⟩))
    refine fin (λW=>Chg LSB w W g F (toS S (xs.take (k+1)))) HC ?_;rintro W Ra;have Bc:=kA Ra;clear Ra HC Kp c2 ct ft;go_wp2;go_roundw
    case rel=>exact⟨k+1,om,by go_num,by rw[Xz.out];go_num,Bc⟩
    case measure=>simp[ivl] <;> omega
  ·obtain rfl:k=n:=om;have e0:xs.take k=xs:=take_of_length_le (by have:=HL.out;omega);rw[e0]at DX ⊢;clear yT;go_wp2;go_ret;exact⟨rfl,F1,DX.out,Dn.1,Dn.2⟩
theorem CM.chs(h:CM w w' g F S ls lt)(c:List (Int × Int)):CM w w' g F { S with ch:=c } ls lt:=by
 obtain⟨F',⟨p,mb,ts,Lf,gv,lab,q1,q2⟩,q3,q4⟩:=h;exact⟨F',⟨p,mb,ts,Lf,gv,lab,⟨q1.row,q1.pool,q1.map,q1.tab,q1.gos,q1.lg,q1.lp,q1.lm,q1.lv,q1.lT⟩,q2⟩,q3,q4⟩
theorem zuj{L:Nat->Prop}{s:Int}{R:TR}(h:TBl w a L s R):
  Calls prog 272 #[.pointer (some ⟨a,0,none⟩)] w λe w'=>e= .returned (.int .i64 s)/\w=w':=by
 obtain⟨v,h1,_⟩:=h;have c0:=h1.set0;have hg:=h1.blk.lt;clear h1;go_enter func272,ntmps272;go_wp2;go_ret;exact⟨rfl,rfl⟩
theorem LI.row(h:LI S ls lt)(hW:WS S){id:Int}{i:Nat}(ha:atS S id=some i){P:PT}(hf:zbN i P=true):LI { S with T:=upf S.T i (zhs i (S.T i) (zaB (S.T i) id) P) } ls lt:=by
 obtain⟨hi,hh⟩:=zcX ha;refine⟨?_,h.chm,h.chn,h.gop,h.gon⟩;rintro x Q ⟨j,hj,hm⟩
 change (x,Q)∈upf S.T i (zhs i (S.T i) (zaB (S.T i) id) P) j at hm
 unfold upf at hm
 by_cases c:j=i
 ·rw[if_pos c]at hm;rcases (zqs (hW.nod i hi) hh hf).1 hm with ⟨h1,h2⟩ | h1
  ·exact h.set_ x Q ⟨i,hi,h1⟩
  ·injection h1 with h1 h2;have hg:=zgI hW ha;rw[h1,h2,h.set_ id _ ⟨i,hi,hg⟩,(zds.1 (hW.fit i hi _ hg)).2,(zds.1 hf).2]
 ·rw[if_neg c]at hm;exact h.set_ x Q ⟨j,hj,hm⟩
theorem zkA(h0:LSB w g F S)(hW:WS S)(hB:Bd S 1000)(id:Int){i:Nat}(ha:atS S id=some i)(P:PT)(Yk:zaz P=true):
  Calls prog 231 #[.pointer (some ⟨g,0,none⟩),.int .i64 id,.agg (pl P).toArray] w λe w'=>e= .returned (.tuple #[])/\Chg LSB w w' g F (zdA S id P):=by
 obtain⟨Zk,XA,_,_⟩:=zdL Yk;obtain⟨k,hk⟩:∃k,k=P.1.toNat:=⟨_,rfl⟩;rw[<-hk]at Zk XA;have Zl:zdA S id P={ S with T:=zem S.T i id P,ch:=zb8 S.ch id S.now }:=by unfold zdA;rw[ha]
 obtain⟨ls,lt,⟨p,mb,ts,Lf,gv,lab,h,hF⟩,hI⟩:=h0;obtain⟨ho,hi,yl,a,kY⟩:=h.there hI hW ha;have hR:=hB.2.2.1 i hi;have Kn:Hid (∀u,Bw w u->Calls prog 185 #[.pointer (some ⟨g,0,none⟩),.int .i64 id] u λe w'=>e= .returned (.tuple #[.pointer (some ⟨a,0,none⟩),.int .i64 (zaB (S.T i) id)])/\Bw u w'):=kA (λu q=>zhj (h.keep q) id ho hi yl kY hR)
 have Hu:Hid (∀u,Bw w u->Calls prog 272 #[.pointer (some ⟨a,0,none⟩)] u λe w'=>e= .returned (.int .i64 (i:Int))/\w'=u):=kA (λu q=>by
  have ht:=(h.keep q).tab i hi;rw[kY]at ht
  exact (zuj ht).mono λ_ _ z=>⟨z.1,z.2.symm⟩)
 have xQ:Hid (i≠k->∀u,Bw w u->Calls prog 116 #[.pointer (some ⟨g,0,none⟩),.int .i64 id] u λe w1=>e= .returned (.tuple #[])/\(∀b,u.heap.size>b->¬F b->w1.heap[b]? =u.heap[b]?)/\Calls prog 112 #[.pointer (some ⟨g,0,none⟩),.int .i64 id,.agg (pl P).toArray] w1 λe w2=>e= .returned (.tuple #[])/\Chg LSB w w2 g F (zdA S id P)):=kA (λC8 u q=>by
  refine (zhk (F:=F) (h.keep q) hF id ho hi yl kY hR).mono ?_;rintro e w1 ⟨rfl,F1,kj,Kw,dh⟩;refine⟨rfl,λb hb hn=>Kw.2.2.2.2 b hb hn,?_⟩;have Be:(upf S.T i (zd9 (S.T i) (zaB (S.T i) id))) k=S.T k:=by unfold upf;rw[if_neg (λe=>C8 e.symm)]
  refine (znJ kj id ho P Zk XA.symm (by show (upf S.T i (zd9 (S.T i) (zaB (S.T i) id)) k).length<=1000;rw[Be];exact hB.2.2.1 k Zk)).mono ?_;rintro e w2 ⟨rfl,hc⟩;refine⟨rfl,?_⟩;have di:=((CM.join Kw dh hc).of q).chs (zb8 S.ch id S.now);obtain⟨YX,hin⟩:=zqx hW ha Yk;have j8:=hI.put hW YX hin (by rw[Zl]) (by rw[Zl]) (by rw[Zl]);rw[<-XA]at j8;refine LSB.of_cm ?_ j8;rw[Zl];have eT:zem S.T i id P=upf (upf S.T i (zd9 (S.T i) (zaB (S.T i) id))) k (zjq k (upf S.T i (zd9 (S.T i) (zaB (S.T i) id)) k) id P):=by
   unfold zem;rw[<-hk,if_neg C8,XA]
  rw[eT]
  exact di)
 have kV:Hid (i=k->∀u,Bw w u->Calls prog 273 #[.pointer (some ⟨a,0,none⟩),.int .i64 (zaB (S.T i) id),.agg (pl P).toArray] u λe w1=>∃z:Int,e= .returned (.int .i64 z)/\g<w1.heap.size/\Calls prog 65 #[.pointer (some ⟨g,0,none⟩),.slice (some ⟨w1.heap.size,0,none⟩) 1 1] (w1.alloc (.cells #[.int .i64 id] 81)) λe w2=>∃z:Int,e= .returned (.int .i64 z)/\Chg LSB w w2 g F (zdA S id P)):=kA (λC8 u q=>by
  have hf:zbN i P=true:=zds.2 ⟨Yk,by rw[C8,XA]⟩;have h1:=h.keep q;have ht:=h1.tab i hi;rw[kY]at ht;refine (znE u a (Lf i) i (S.T i) (zaB (S.T i) id) P hR ht).mono ?_;rintro e w1 ⟨L',rfl,t1,t2,t3⟩;obtain⟨F1,kj,Kw,dh⟩:=(h1.tabled hF hi kY t1 t2 t3).of q;have XV:LSB w1 g F1 { S with T:=upf S.T i (zhs i (S.T i) (zaB (S.T i) id) P) }:=⟨ls,lt,kj,hI.row hW ha hf⟩;refine⟨_,rfl,kj.inH,?_⟩;have Hf:Bw w1 (w1.alloc (.cells #[.int .i64 id] 81)):=zaa _ _
  have Kt:Aw F1 (some ⟨w1.heap.size,0,none⟩) 1:=Or.inr (λad e c=>by
   injection e with e;rw[<-e]at c;obtain⟨p',xo,jy,ZH,gv',de,q1,q2⟩:=kj;have:=q1.inb _ ((q2 _).1 c)
   exact Nat.lt_irrefl _ this)
  refine (zia (XV.keep Hf) _ 1 1 [id] om (znY w1 id _) Kt).mono ?_;rintro e w2 ⟨rfl,hc⟩;refine⟨_,rfl,?_⟩;have hl:zai { S with T:=upf S.T i (zhs i (S.T i) (zaB (S.T i) id) P) } id=true:=zjf hW ha;have eS:toS { S with T:=upf S.T i (zhs i (S.T i) (zaB (S.T i) id) P) } [id]=zdA S id P:=by
   show to1 { S with T:=upf S.T i (zhs i (S.T i) (zaB (S.T i) id) P) } id=_;unfold to1;rw[if_pos hl,Zl];have eT:zem S.T i id P=upf S.T i (zhs i (S.T i) (zaB (S.T i) id) P):=by unfold zem;rw[<-hk,if_pos C8]
   rw[eT]
  rw[eS]at hc
  exact Chg.joins Kw dh (hc.of Hf))
 have YU:(pl P)[0]? =some (.int .i64 (k:Int)):=by rw[XA];rfl
 have ko:=kA (pxs P);have Yj:Hid (¬F w.heap.size):=kA (λc=>by have:=h.inb _ ((hF _).1 c);omega);have hg:=h.row.lt;obtain⟨q,hq⟩:∃q,q=zaB (S.T i) id:=⟨_,rfl⟩;rw[<-hq]at Kn kV;obtain⟨X,hX⟩:∃X,X=pl P:=⟨_,rfl⟩;rw[<-hX]at ko xQ kV YU ⊢;have Bf:=kA YU;have KX:=kA (Blk.new w 52 X.toArray);have Ha:Hid (Bw w (w.alloc (.cells X.toArray 52))):=kA (zaa _ _);clear hX hq YU Zl h hF hI ho yl kY hR hW hB ha Yk hk XA;go_enter func231,ntmps231;go_wp2_with fail;refine (Kn _ Ha).mono ?_;rintro e w1 ⟨rfl,b1⟩;replace KX:=kA (Blk.keep KX b1);replace Ha:=kA (zad Ha b1);clear b1;have cx:w1.cell? ⟨w.heap.size,0,none⟩=some (.int .i64 (k:Int)):=by rw[KX.cell];simpa using Bf.out
 have zx:=KX.lt;have Dj:Hid (w1.rangeAt w.heap.size 0 X):=kA (zac KX);go_wp2;go_quiet (first | (go_at_call 272;refine Calls.quiet_of_same (Hu _ (Go.below_drewN Ha _))))
 refine fin (λW=>Bw w W/\Blk W w.heap.size 52 X.toArray) ⟨Go.below_drewN Ha _,Blk.drewN KX _⟩ ?_;clear KX Ha cx zx Dj;rintro W ⟨hb,kx⟩;have Ha:=kA hb;have KX:=kA kx;have zx:=kx.lt;have zg:g<W.heap.size:=Nat.lt_of_lt_of_le hg hb.size;clear hb kx
 by_cases C8:i=k
 ·subst C8;replace kV:=kA (kV rfl);clear xQ;go_wp2_with (refine wpList_load_mid rfl 52 (.tmp 5) rfl w.heap.size 0 rfl X _ (zac KX) underlying52 rfl ko.2.1 ?_);refine (kV _ Ha).mono ?_;rintro e w2 ⟨z,rfl,nW,Rb⟩;have KF:=kA Rb;clear Rb;go_wp2_with fail;refine KF.mono ?_;rintro e w3 ⟨z2,rfl,hc⟩;have HC:=kA hc;clear hc;go_wp2;go_end0;exact⟨rfl,HC⟩
 ·replace xQ:=kA (xQ C8);have Ho:decide ((k:Int)=(i:Int))=false:=decide_eq_false om;clear kV;go_wp2_with fail;refine (xQ _ Ha).mono ?_;rintro e w2 ⟨rfl,kD,DI⟩;have Re:Hid (Blk w2 w.heap.size 52 X.toArray):=kA (KX.same (kD _ zx Yj));have HAdd:=kA DI;have mC:=Re.lt;clear DI kD;go_wp2_with (refine wpList_load_mid rfl 52 (.tmp 5) rfl w.heap.size 0 rfl X _ (zac Re) underlying52 rfl ko.2.1 ?_);refine HAdd.mono ?_;rintro e w3 ⟨rfl,hc⟩;have HC:=kA hc;clear hc;go_wp2;exact bodyPost_ret (v:= .tuple #[]) (results_none rfl _ _ _) rfl ⟨rfl,HC⟩
theorem zhl(h0:LSB w g F S)(hW:WS S)(hB:Bd S 1000)(id:Int)(Fn:Nat)(cap:Array Value)(E:Int)(V:PT)(hE:zbs Fn)
  (Zm:∀u,Bw w u->Calls prog Fn (#[.agg (pl (zby S id)).toArray]++cap) u λe w'=>∃Z,e= .returned (.tuple #[.agg (toArray Z),.int .i64 E])/\Z=pl V/\Bw u w')(hr:zcF S id=true->E=0->zaz V=true):
  Calls prog 162 #[.pointer (some ⟨g,0,none⟩),.int .i64 id,.func (.func Fn) #[] cap] w λe w'=>e= .returned (.int .i64 (if zcF S id then E else 4))/\Chg LSB w w' g F (if zcF S id=true/\E=0 then zdA S id V else S):=by
 have Db:Hid (Calls prog 213 #[.pointer (some ⟨g,0,none⟩),.int .i64 id] w λe w'=>∃Y,e= .returned (.tuple #[.agg (toArray Y),.bool (zcF S id)])/\Y=pl (zby S id)/\Bw w w'):=kA (znM h0 hW hB id);have hg:=h0.inH;have H0:=kA h0
 cases CR:zcF S id with
 | false=>
  rw[CR]at Db;rw[if_neg (by simp),if_neg (by simp)];clear CR h0 Zm hr hE;go_enter func162,ntmps162;go_wp2_with fail;refine Db.mono ?_;rintro e w1 ⟨Y,rfl,hY,b1⟩;have ko:Hid (PXs Y):=kA (by rw[hY];exact pxs _);have HB:=kA b1;clear hY b1;have KA:=kA (Blk.new w1 52 Z24.toArray);have Xy:Hid ((w1.alloc (.cells Z24.toArray 52)).there w1.heap.size 0 Y.toArray.size):=kA (zae KA (by rw[size_toArray,ko.1];exact Nat.le_refl 24));have xO:Hid (Bw w1 ((w1.alloc (.cells Z24.toArray 52)).setCells w1.heap.size 0 Y)):=kA (zab Y (zaa _ _) (Nat.le_refl _))
  have LA:Hid (Blk ((w1.alloc (.cells Z24.toArray 52)).setCells w1.heap.size 0 Y) w1.heap.size 52 Y.toArray):=kA (by
   have:=zaf Y (o:=0) KA (by rw[ko.1];exact Nat.le_refl 24)
   rwa [zao (by rw[ko.1];rfl)]at this)
  go_upto_region 4 with (refine wpList_store_mid rfl 52 (.tmp 7) (.tmp 17) rfl w1.heap.size 0 Y.toArray rfl rfl Xy ko.2.2.1 ko.2.2.2 ?_);refine fin (λW=>Bw w W) (zad HB xO) ?_;rintro W hb;have da:=kA hb;clear hb;go_wp2;go_ret;exact⟨rfl,LSB.still H0 da⟩
 | true=>
  obtain⟨i,ha⟩:∃i,atS S id=some i:=by unfold zcF at CR;exact Option.isSome_iff_exists.1 CR
  rw[CR]at Db;have CQ:Hid (∀u Y,Y=pl (zby S id)->Bw w u->Calls prog Fn (#[.agg (toArray Y)]++cap) u λe w'=>∃Z,e= .returned (.tuple #[.agg (toArray Z),.int .i64 E])/\Z=pl V/\Bw u w'):=kA (λu Y hY q=>by rw[hY];exact Zm u q)
  have yd:Hid (E=0->∀u Z,Z=pl V->Bw w u->Calls prog 231 #[.pointer (some ⟨g,0,none⟩),.int .i64 id,.agg (toArray Z)] u λe w'=>e= .returned (.tuple #[])/\Chg LSB w w' g F (zdA S id V)):=kA (λhe u Z hZ q=>by
   rw[hZ]
   exact (zkA (h0.keep q) hW hB id ha V (hr CR he)).mono λ_ _ z=>⟨z.1,z.2.of q⟩)
  have Qa:=hE;unfold zbs at Qa;rw[if_pos rfl];obtain⟨S',C7⟩:∃S',S'=(if (true=true)/\E=0 then zdA S id V else S):=⟨_,rfl⟩
  rw[<-C7];have Bg:Hid (E=0->S'=zdA S id V):=kA (λc=>by rw[C7,if_pos ⟨rfl,c⟩]);have dK:Hid (E≠0->S'=S):=kA (λc=>by rw[C7,if_neg (λd=>c d.2)]);clear CR h0 Zm hr hE ha hW hB C7;go_enter func162,ntmps162;go_wp2_with fail;refine Db.mono ?_;rintro e w1 ⟨Y,rfl,hY,b1⟩;have ko:Hid (PXs Y):=kA (by rw[hY];exact pxs _);have HY:=kA hY;have HB:=kA b1;clear hY b1;have KA:=kA (Blk.new w1 52 Z24.toArray);have Xy:Hid ((w1.alloc (.cells Z24.toArray 52)).there w1.heap.size 0 Y.toArray.size):=kA (zae KA (by rw[size_toArray,ko.1];exact Nat.le_refl 24));have xO:Hid (Bw w1 ((w1.alloc (.cells Z24.toArray 52)).setCells w1.heap.size 0 Y)):=kA (zab Y (zaa _ _) (Nat.le_refl _))
  have LA:Hid (Blk ((w1.alloc (.cells Z24.toArray 52)).setCells w1.heap.size 0 Y) w1.heap.size 52 Y.toArray):=kA (by
   have:=zaf Y (o:=0) KA (by rw[ko.1];exact Nat.le_refl 24)
   rwa [zao (by rw[ko.1];rfl)]at this)
  go_upto_region 4 with (refine wpList_store_mid rfl 52 (.tmp 7) (.tmp 17) rfl w1.heap.size 0 Y.toArray rfl rfl Xy ko.2.2.1 ko.2.2.2 ?_);refine fin (λW=>Blk W w1.heap.size 52 Y.toArray/\Bw w W) ⟨LA,zad HB xO⟩ ?_;obtain⟨g9,CS⟩:∃g9,g9=w1.heap.size:=⟨_,rfl⟩;rw[<-CS];clear KA Xy xO LA HB CS Db;rintro W ⟨k9,hb⟩;have K9:=kA (zac k9);have HB:=kA hb;have z9:=k9.lt;have zg:g<W.heap.size:=Nat.lt_of_lt_of_le hg hb.size;clear k9 hb;go_wp2_with (refine wpList_load_mid rfl 52 (.tmp 7) rfl g9 0 rfl Y _ K9 underlying52 rfl ko.2.1 ?_);refine (CQ _ Y HY HB).mono ?_;rintro e w2 ⟨Z,rfl,hZ,b2⟩;have dW:Hid (PXs Z):=kA (by rw[hZ];exact pxs _);have HZ:=kA hZ;replace HB:=kA (zad HB b2);clear hZ b2 Qa CQ K9 z9 zg;have KA:=kA (Blk.new w2 52 Z24.toArray);have Xy:Hid ((w2.alloc (.cells Z24.toArray 52)).there w2.heap.size 0 Z.toArray.size):=kA (zae KA (by rw[size_toArray,dW.1];exact Nat.le_refl 24));have xO:Hid (Bw w2 ((w2.alloc (.cells Z24.toArray 52)).setCells w2.heap.size 0 Z)):=kA (zab Z (zaa _ _) (Nat.le_refl _))
  have LA:Hid (Blk ((w2.alloc (.cells Z24.toArray 52)).setCells w2.heap.size 0 Z) w2.heap.size 52 Z.toArray):=kA (by
   have:=zaf Z (o:=0) KA (by rw[dW.1];exact Nat.le_refl 24)
   rwa [zao (by rw[dW.1];rfl)]at this)
  go_upto_region 7 with (refine wpList_store_mid rfl 52 (.tmp 9) (.tmp 25) rfl w2.heap.size 0 Z.toArray rfl rfl Xy dW.2.2.1 dW.2.2.2 ?_);refine fin (λW=>Blk W w2.heap.size 52 Z.toArray/\Bw w W) ⟨LA,zad HB xO⟩ ?_;obtain⟨g8,Xu⟩:∃g8,g8=w2.heap.size:=⟨_,rfl⟩;rw[<-Xu];clear KA Xy xO LA HB Xu;rintro W2 ⟨k8,hb⟩;have K8:=kA (zac k8);have HB:=kA hb;have z8:=k8.lt;clear k8 hb
  by_cases he:E=0
  ·have eS:=kA (Bg he);replace yd:=kA (yd he);subst he;go_wp2_with (refine wpList_load_mid rfl 52 (.tmp 9) rfl g8 0 rfl Z _ K8 underlying52 rfl dW.2.1 ?_);refine (yd _ Z HZ HB).mono ?_;rintro e w3 ⟨rfl,hc⟩;have HC:=kA hc;clear hc;go_wp2;go_ret;exact⟨rfl,by rw[eS.out];exact HC.out⟩
  ·have eS:=kA (dK he);have Ho:decide (E=0)=false:=decide_eq_false he;go_wp2;go_ret;exact⟨rfl,by rw[eS.out];exact LSB.still H0 HB⟩
theorem zuk(P Q:PT)(g7 g8:Nat)(a:Option Addr)(n cap:Nat)(ks:List Int)(w:World)(k7:Blk w g7 52 (pl Q).toArray)(k8:w.cell? ⟨g8,0,none⟩=some (.slice a n cap))(row:Row w a n ks):
  Calls prog 163 (#[.agg (pl P).toArray]++ #[.pointer (some ⟨g7,0,none⟩),.pointer (some ⟨g8,0,none⟩)]) w λe w'=>∃Z,e= .returned (.tuple #[.agg (toArray Z),.int .i64 (zfV P Q ks)])/\Z=pl (zeC P Q ks)/\Bw w w':=by
 have Qb:Hid (∀u,Bw w u->Calls prog 164 #[.agg (pl P).toArray,.agg (pl Q).toArray,.slice a n cap] u λe w'=>e= .returned (.tuple #[.agg (pl (zeC P Q ks)).toArray,.int .i64 (zfV P Q ks)])/\Bw u w'):=kA (λu q=>zp9 P Q a n cap ks u (zar row q));have XD:=kA (pxs P);have Rf:=kA (pxs Q);have dW:=kA (pxs (zeC P Q ks));obtain⟨E,hE⟩:∃E,E=zfV P Q ks:=⟨_,rfl⟩;obtain⟨Xp,Hz⟩:∃Xp,Xp=pl P:=⟨_,rfl⟩;obtain⟨Xq,CL⟩:∃Xq,Xq=pl Q:=⟨_,rfl⟩;obtain⟨Z,hZ⟩:∃Z,Z=pl (zeC P Q ks):=⟨_,rfl⟩;rw[<-hE,<-Hz,<-CL,<-hZ]at Qb;rw[<-Hz]at XD ⊢;rw[<-CL]at Rf k7;rw[<-hZ]at dW ⊢;rw[<-hE];have z7:=k7.lt;have z8:g8<w.heap.size:=World.block_lt_of_cell? _ _ k8;have K7:=kA k7;have KP:=kA (Blk.new w 52 Xp.toArray);have Ha:Hid (Bw w (w.alloc (.cells Xp.toArray 52))):=kA (zaa _ _)
 have KR:Hid (Blk ((w.alloc (.cells Xp.toArray 52)).alloc (.cells Z24.toArray 52)) (w.heap.size+1) 52 Z24.toArray):=kA (by
  have:=Blk.new (w.alloc (.cells Xp.toArray 52)) 52 Z24.toArray
  rwa [show (w.alloc (.cells Xp.toArray 52)).heap.size=w.heap.size+1 by simp]at this)
 have Hk:Hid (Below (w.alloc (.cells Xp.toArray 52)).heap.size (w.alloc (.cells Xp.toArray 52)) ((w.alloc (.cells Xp.toArray 52)).alloc (.cells Z24.toArray 52))):=kA (zaa _ _);have D4:=kA (Blk.keep KP Hk);have He:=kA (zad Ha Hk);have Rh:=kA (Blk.keep K7 He);have c8:=zam k8 He;clear hE Hz CL hZ row k7 k8 KP Ha Hk K7;go_enter func163,ntmps163;go_upto_region 1 with fail;refine fin (λW=>Blk W w.heap.size 52 Xp.toArray/\Blk W (w.heap.size+1) 52 Z24.toArray/\Blk W g7 52 Xq.toArray/\W.cell? ⟨g8,0,none⟩=some (.slice a n cap)/\Bw w W) ⟨D4,KR.out,Rh.out,c8,He⟩ ?_;clear D4 KR Rh c8 He;rintro W ⟨kp,kr,k7,c8,hb⟩;have KP:=kA (zac kp);have KR:=kA kr;have K7:=kA (zac k7);have HB:=kA hb;have z1:=kp.lt;have z2:=k7.lt;have z3:g8<W.heap.size:=World.block_lt_of_cell? _ _ c8;clear kp kr k7 hb;go_wp2_with (first | refine wpList_load_mid rfl 52 (.tmp 3) rfl w.heap.size 0 rfl Xp _ KP underlying52 rfl XD.2.1 ?_ | refine wpList_load_mid rfl 52 (.tmp 1) rfl g7 0 rfl Xq _ K7 underlying52 rfl Rf.2.1 ?_)
 refine (Qb _ HB).mono ?_;rintro e w2 ⟨rfl,b2⟩;replace KR:=kA (Blk.keep KR b2);replace HB:=kA (zad HB b2);have zr:=KR.lt;have Ka:Hid (w2.there (w.heap.size+1) 0 Z.toArray.size):=kA (zae KR (by rw[size_toArray,dW.1];exact Nat.le_refl 24));have L4:Hid (Blk (w2.setCells (w.heap.size+1) 0 Z) (w.heap.size+1) 52 Z.toArray):=kA (zal KR (by rw[dW.1];rfl));clear b2 c8;go_wp2_with (first | refine wpList_store_mid rfl 52 (.tmp 4) (.tmp 10) rfl (w.heap.size+1) 0 Z.toArray rfl rfl Ka dW.2.2.1 dW.2.2.2 ?_)
 refine fin (λW=>Blk W (w.heap.size+1) 52 Z.toArray/\Bw w W) ⟨L4,zab _ HB om⟩ ?_;rintro W2 ⟨kr,hb⟩;have hl:=run_loadVar_mid W2 (w.heap.size+1) 0 52 Z _ (zac kr) underlying52 rfl dW.2.1
 try simp only[Go.Act.put,setIfInBounds_toArray,set_cons_zero,set_cons_succ]
 exact bodyPost_ret (v:= .tuple #[.agg Z.toArray,.int .i64 E]) (zan results163 rfl rfl hl) rfl ⟨Z,rfl,rfl,hb⟩
theorem zul(P:PT)(g8:Nat)(a:Option Addr)(n cap:Nat)(ks:List Int)(w:World)(k8:w.cell? ⟨g8,0,none⟩=some (.slice a n cap))(row:Row w a n ks):
  Calls prog 165 (#[.agg (pl P).toArray]++ #[.pointer (some ⟨g8,0,none⟩)]) w λe w'=>∃Z,e= .returned (.tuple #[.agg (toArray Z),.int .i64 (zeh P ks)])/\Z=pl (zfW P ks)/\Bw w w':=by
 have Qb:Hid (∀u,Bw w u->Calls prog 166 #[.agg (pl P).toArray,.slice a n cap] u λe w'=>e= .returned (.tuple #[.agg (pl (zfW P ks)).toArray,.int .i64 (zeh P ks)])/\Bw u w'):=kA (λu q=>zyn P a n cap ks u (zar row q));have XD:=kA (pxs P);have dW:=kA (pxs (zfW P ks));obtain⟨E,hE⟩:∃E,E=zeh P ks:=⟨_,rfl⟩;obtain⟨Xp,Hz⟩:∃Xp,Xp=pl P:=⟨_,rfl⟩;obtain⟨Z,hZ⟩:∃Z,Z=pl (zfW P ks):=⟨_,rfl⟩;rw[<-hE,<-Hz,<-hZ]at Qb;rw[<-Hz]at XD ⊢;rw[<-hZ]at dW ⊢;rw[<-hE];have z8:g8<w.heap.size:=World.block_lt_of_cell? _ _ k8;have KP:=kA (Blk.new w 52 Xp.toArray);have Ha:Hid (Bw w (w.alloc (.cells Xp.toArray 52))):=kA (zaa _ _)
 have KR:Hid (Blk ((w.alloc (.cells Xp.toArray 52)).alloc (.cells Z24.toArray 52)) (w.heap.size+1) 52 Z24.toArray):=kA (by
  have:=Blk.new (w.alloc (.cells Xp.toArray 52)) 52 Z24.toArray
  rwa [show (w.alloc (.cells Xp.toArray 52)).heap.size=w.heap.size+1 by simp]at this)
 have Hk:Hid (Below (w.alloc (.cells Xp.toArray 52)).heap.size (w.alloc (.cells Xp.toArray 52)) ((w.alloc (.cells Xp.toArray 52)).alloc (.cells Z24.toArray 52))):=kA (zaa _ _);have D4:=kA (Blk.keep KP Hk);have He:=kA (zad Ha Hk);have c8:=zam k8 He;clear hE Hz hZ row k8 KP Ha Hk;go_enter func165,ntmps165;go_upto_region 1 with fail;refine fin (λW=>Blk W w.heap.size 52 Xp.toArray/\Blk W (w.heap.size+1) 52 Z24.toArray/\W.cell? ⟨g8,0,none⟩=some (.slice a n cap)/\Bw w W) ⟨D4,KR.out,c8,He⟩ ?_;clear D4 KR c8 He;rintro W ⟨kp,kr,c8,hb⟩;have KP:=kA (zac kp);have KR:=kA kr;have HB:=kA hb;have z1:=kp.lt;have z3:g8<W.heap.size:=World.block_lt_of_cell? _ _ c8;clear kp kr hb;go_wp2_with (first | refine wpList_load_mid rfl 52 (.tmp 2) rfl w.heap.size 0 rfl Xp _ KP underlying52 rfl XD.2.1 ?_)
 refine (Qb _ HB).mono ?_;rintro e w2 ⟨rfl,b2⟩;replace KR:=kA (Blk.keep KR b2);replace HB:=kA (zad HB b2);have zr:=KR.lt;have Ka:Hid (w2.there (w.heap.size+1) 0 Z.toArray.size):=kA (zae KR (by rw[size_toArray,dW.1];exact Nat.le_refl 24));have L4:Hid (Blk (w2.setCells (w.heap.size+1) 0 Z) (w.heap.size+1) 52 Z.toArray):=kA (zal KR (by rw[dW.1];rfl));clear b2 c8;go_wp2_with (first | refine wpList_store_mid rfl 52 (.tmp 3) (.tmp 8) rfl (w.heap.size+1) 0 Z.toArray rfl rfl Ka dW.2.2.1 dW.2.2.2 ?_)
 refine fin (λW=>Blk W (w.heap.size+1) 52 Z.toArray/\Bw w W) ⟨L4,zab _ HB om⟩ ?_;rintro W2 ⟨kr,hb⟩;have hl:=run_loadVar_mid W2 (w.heap.size+1) 0 52 Z _ (zac kr) underlying52 rfl dW.2.1
 try simp only[Go.Act.put,setIfInBounds_toArray,set_cons_zero,set_cons_succ]
 exact bodyPost_ret (v:= .tuple #[.agg Z.toArray,.int .i64 E]) (zan results165 rfl rfl hl) rfl ⟨Z,rfl,rfl,hb⟩
theorem zl6:zbs 163:=λ_ _=>oM
theorem zl7:zbs 165:=λ_ _=>oM
theorem zum(h0:LSB w g F S)(hW:WS S)(hB:Bd S 1000)(id:Int)(Q:PT)(a:Option Addr)(n cap:Nat)(ks:List Int)(row:Row w a n ks):
  Calls prog 93 #[.pointer (some ⟨g,0,none⟩),.int .i64 id,.agg (pl Q).toArray,.slice a n cap] w λe w'=>e= .returned (.int .i64 (puE S id Q ks))/\Chg LSB w w' g F (puS S id Q ks):=by
 have dv:Bw w ((w.alloc (.cells (pl Q).toArray 52)).alloc (.cells #[.slice a n cap] 53)):=zad (zaa _ _) (zaa _ _)
 have yn:Hid (Calls prog 162 #[.pointer (some ⟨g,0,none⟩),.int .i64 id,.func (.func 163) #[] #[.pointer (some ⟨w.heap.size,0,none⟩),.pointer (some ⟨w.heap.size+1,0,none⟩)]] ((w.alloc (.cells (pl Q).toArray 52)).alloc (.cells #[.slice a n cap] 53)) λe w'=>e= .returned (.int .i64 (puE S id Q ks))/\Chg LSB w w' g F (puS S id Q ks)):=kA (by
  have k7:Blk ((w.alloc (.cells (pl Q).toArray 52)).alloc (.cells #[.slice a n cap] 53)) w.heap.size 52 (pl Q).toArray:=Blk.keep (Blk.new w _ _) (zaa _ _);have k8:((w.alloc (.cells (pl Q).toArray 52)).alloc (.cells #[.slice a n cap] 53)).cell? ⟨w.heap.size+1,0,none⟩=some (.slice a n cap):=by
   have:=(Blk.new (w.alloc (.cells (pl Q).toArray 52)) 53 #[.slice a n cap]).cell 0
   rwa [show (w.alloc (.cells (pl Q).toArray 52)).heap.size=w.heap.size+1 by simp]at this
  refine (zhl (h0.keep dv) hW hB id 163 _ (zfV (zby S id) Q ks) (zeC (zby S id) Q ks) zl6 (λu q=>zuk (zby S id) Q w.heap.size (w.heap.size+1) a n cap ks u (k7.keep q) (zam k8 q) (zar (zar row dv) q)) (λhb he=> ?_)).mono ?_
  ·obtain⟨i,_,Yk⟩:=zwx (S:=S) (id:=id) (Q:=Q) (ks:=ks) (by unfold puE;rw[hb];exact he);exact Yk
  ·rintro e w' ⟨rfl,hc⟩;have e2:(if zcF S id=true/\zfV (zby S id) Q ks=0 then zdA S id (zeC (zby S id) Q ks) else S)=puS S id Q ks:=by
    unfold puS puE
    cases zcF S id <;> simp
   rw[e2]at hc
   exact⟨by unfold puE;rfl,hc.of dv⟩)
 have ko:=kA (pxs Q);obtain⟨X,hX⟩:∃X,X=pl Q:=⟨_,rfl⟩;rw[<-hX]at yn ko ⊢;clear hX dv h0 hW hB row;go_enter func93,ntmps93;go_wp2_with fail;refine yn.mono ?_;rintro e w1 ⟨rfl,hc⟩;have HC:=kA hc;clear hc;go_wp2;go_ret;exact⟨rfl,HC⟩
theorem zun(h0:LSB w g F S)(hW:WS S)(hB:Bd S 1000)(id:Int)(a:Option Addr)(n cap:Nat)(ks:List Int)(row:Row w a n ks):
  Calls prog 94 #[.pointer (some ⟨g,0,none⟩),.int .i64 id,.slice a n cap] w λe w'=>e= .returned (.int .i64 (cuE S id ks))/\Chg LSB w w' g F (cuS S id ks):=by
 have dv:Bw w (w.alloc (.cells #[.slice a n cap] 53)):=zaa _ _
 have yn:Hid (Calls prog 162 #[.pointer (some ⟨g,0,none⟩),.int .i64 id,.func (.func 165) #[] #[.pointer (some ⟨w.heap.size,0,none⟩)]] (w.alloc (.cells #[.slice a n cap] 53)) λe w'=>e= .returned (.int .i64 (cuE S id ks))/\Chg LSB w w' g F (cuS S id ks)):=kA (by
  have k8:(w.alloc (.cells #[.slice a n cap] 53)).cell? ⟨w.heap.size,0,none⟩=some (.slice a n cap):=(Blk.new w 53 #[.slice a n cap]).cell 0;refine (zhl (h0.keep dv) hW hB id 165 _ (zeh (zby S id) ks) (zfW (zby S id) ks) zl7 (λu q=>zul (zby S id) w.heap.size a n cap ks u (zam k8 q) (zar (zar row dv) q)) (λhb he=> ?_)).mono ?_
  ·obtain⟨i,_,Yk⟩:=zwy (S:=S) (id:=id) (ks:=ks) (by unfold cuE;rw[hb];exact he);exact Yk
  ·rintro e w' ⟨rfl,hc⟩;have e2:(if zcF S id=true/\zeh (zby S id) ks=0 then zdA S id (zfW (zby S id) ks) else S)=cuS S id ks:=by
    unfold cuS cuE
    cases zcF S id <;> simp
   rw[e2]at hc
   exact⟨by unfold cuE;rfl,hc.of dv⟩)
 clear dv h0 hW hB row;go_enter func94,ntmps94;go_wp2_with fail;refine yn.mono ?_;rintro e w1 ⟨rfl,hc⟩;have HC:=kA hc;clear hc;go_wp2;go_ret;exact⟨rfl,HC⟩
theorem znN(x y:Int)(W:World):(Instr.buildSlice 136 1 #[(0,.agg #[.int .i64 x,.int .i64 y])]).run prog W= .ok (.slice (some ⟨W.heap.size,0,none⟩) 1 1) (W.alloc (.cells ([.int .i64 x,.int .i64 y]:List Value).toArray 196)):=oM
theorem zAf:(prog.info? 196).map (λi=>(i.zero,i.size,i.bytes))=some (some (.agg #[.int .i64 0,.int .i64 0]),2,16):=oM
theorem zAg(x y:Int):∀u∈([.int .i64 x,.int .i64 y]:List Value),u.oneCell'=true:=λu hu=>by
 simp only[mem_cons,not_mem_nil,or_false]at hu;rcases hu with rfl | rfl <;> rfl
theorem LM.gone_{W Wb:World}{gu n cap:Nat}{l:List (Int × Int)}(h:LM W g S p mb ls lt ts Lf gv lab)(hF:∀b,F b↔zc1 g p mb Lf gv b)(hb:Bw W Wb)(hg:Wb.grownBy w1 gv.ownBlock)
  (hc:zy0 w1 (.slice (some ⟨gu,0,none⟩) n cap) l)(hu:gv.ownBlock=some gu∨Wb.heap.size<=gu):
  CM W (w1.setCell ⟨g,515,none⟩ (.slice (some ⟨gu,0,none⟩) n cap)) g F { S with go:=l } ls lt/\w1.rowIs g 138 516 (lF p mb S.now ls lt gv):=by
 have cj:=h.row.lt;have ED:gv.ownBlock≠some g:=λe=>by have h1:=h.lv g e;rw[h.lg]at h1;omega
 have hst:∀b,b≠g->(w1.setCell ⟨g,515,none⟩ (.slice (some ⟨gu,0,none⟩) n cap)).heap[b]? =w1.heap[b]? :=λb c=>Go.Deep.blk_setCell_other _ _ _ _ c;have Nq:w1.rowIs g 138 516 (lF p mb S.now ls lt gv):=(h.keep hb).row.of_block (hg.block g (h.keep hb).row.lt (λe=>ED e.symm));have E0:gu≠g:=λe=>by
  rcases hu with c | c
  ·exact ED (e ▸ c)
  ·have:=hb.size;omega
 refine⟨LM.went (w':=w1.setCell ⟨g,515,none⟩ (.slice (some ⟨gu,0,none⟩) n cap)) (gv':= .slice (some ⟨gu,0,none⟩) n cap) h hF ⟨hg.os.trans hb.os,hg.tape.trans hb.tape,hg.output.trans hb.output,Nat.le_trans hb.size (by simpa[World.setCell] using hg.size),λb hl hn=> ?_⟩ ((Nq.set 515 _).congr (λj hj=>zxn _ j hj)) (ColX.same hc (λb e=>hst b (λc=> ?_))) (λb e=> ?_),Nq⟩
 ·rw[hst b (λc=>hn (.inl c)),hg.block b (Nat.lt_of_lt_of_le hl hb.size) (λe=>hn (.inr e.symm)),hb.block b hl]
 ·have:gu=b:=by simpa[Value.ownBlock] using e
  omega
 ·have e':gu=b:=by simpa[Value.ownBlock] using e
  subst e';rcases hu with c | c
  ·exact .inl c
  ·exact .inr (Nat.le_trans hb.size c)
theorem zkC(h0:LSB w g F S)(hW:WS S)(hB:Bd S 1000)(id:Int):
  Calls prog 64 #[.pointer (some ⟨g,0,none⟩),.int .i64 id] w λe w'=>e= .returned (.int .i64 (deE S id))/\Chg LSB w w' g F (deS S id):=by
 have H0:=kA h0;have hg:=h0.inH;obtain⟨p,c0,CV,_⟩:=h0.live;have dB:=kA (CV id);clear CV
 cases ha:atS S id with
 | none=>
  have e4:Hid (deE S id=4):=kA (by unfold deE;rw[show zcF S id=false by unfold zcF;rw[ha];rfl];rfl);have e5:Hid (deS S id=S):=kA (by unfold deS;rw[ha]);rw[zrT hW ha]at dB;clear ha h0 hW hB;go_enter func64,ntmps64;go_wp2_with fail;refine dB.mono ?_;rintro e w1 ⟨rfl,b1⟩;have B1:=kA b1;clear b1;go_wp2;go_ret;exact⟨by rw[e4.out];rfl,by rw[e5.out];exact LSB.still H0 B1⟩
 | some i=>
  have e4:Hid (deE S id=0):=kA (by unfold deE;rw[show zcF S id=true by unfold zcF;rw[ha];rfl];rfl);have Qc:deS S id={ S with T:=upf S.T i (zd9 (S.T i) (zaB (S.T i) id)),G:=drG S.G S.L id,L:=drL S.G S.L id,go:=S.go++[(id,S.now)] }:=by unfold deS;rw[ha]
  rw[zjf hW ha]at dB;obtain⟨ls,lt,⟨p',mb,ts,Lf,gv,lab,h,hF⟩,hI⟩:=h0;obtain⟨ho,hi,yl,a,kY⟩:=h.there hI hW ha;have hR:=hB.2.2.1 i hi;obtain⟨YX,hin⟩:=zfm hW ha;have Bh:Hid (LI (deS S id) ls lt):=kA (hI.cut hW YX hin (by rw[Qc]) (by rw[Qc]) (by rw[Qc]));have dJ:=kA hW.ok
  have yn:Hid (∀u,Bw w u->Calls prog 116 #[.pointer (some ⟨g,0,none⟩),.int .i64 id] u λe w1=>e= .returned (.tuple #[])/\∃p,w1.cell? ⟨g,0,none⟩=some (.pointer (some ⟨p,0,none⟩))/\g<w1.heap.size/\Calls prog 117 #[.pointer (some ⟨p,0,none⟩),.int .i64 id] w1 λe w2=>∃z,e= .returned (.bool z)/\CM w w2 g F { S with T:=upf S.T i (zd9 (S.T i) (zaB (S.T i) id)),G:=drG S.G S.L id,L:=drL S.G S.L id } ls lt):=kA (λu q=>by
   refine (zhk (F:=F) (h.keep q) hF id ho hi yl kY hR).mono ?_;rintro e w1 ⟨rfl,F1,⟨p1,mD,mE,mG,mH,lab1,h1,Cc⟩,Kw,dh⟩;refine⟨rfl,p1,h1.c0,h1.row.lt,?_⟩;refine (zAe p1 S.room S.G S.L id w1 dJ.gen h1.pool).mono ?_;rintro e w2 ⟨rfl,DU,Km⟩
   exact⟨_,rfl,(CM.join Kw dh (h1.pooled Cc Km DU)).of q⟩)
  have Bi:=kA Qc;have cj:=hB.2.1;clear ha H0 h hF hI YX hin Qc hW hB ho yl kY hR;go_enter func64,ntmps64;go_wp2_with fail;refine dB.mono ?_;rintro e w1 ⟨rfl,b1⟩;have B1:=kA b1;clear b1;go_wp2_with fail;refine (yn _ B1).mono ?_;rintro e w2 ⟨rfl,p2,cp,nW,qO⟩;have Cj:=kA qO;clear qO;go_wp2_with fail;refine Cj.mono ?_;rintro e w3 ⟨z3,rfl,Kf⟩;obtain⟨F3,⟨p3,nY,nZ,Na,gv3,lab3,h3,Ri⟩,Rj,ZQ⟩:=Kf;obtain⟨nw,Dm⟩:∃nw,nw=S.now:=⟨_,rfl⟩;have yo:=kA Dm;have c2:w3.cell? ⟨g,2,none⟩=some (.int .i64 nw):=by rw[Dm];exact h3.c2
  have c515:=h3.c515;have dT:=h3.row.lt;have hD:LM w3.drew g { S with T:=upf S.T i (zd9 (S.T i) (zaB (S.T i) id)),G:=drG S.G S.L id,L:=drL S.G S.L id } p3 nY ls lt nZ Na gv3 lab3:=h3.keep (za5 (Below.refl _ _));have HD:=kA hD;have Ve:=kA (And.intro Ri (And.intro Rj ZQ));have CW:=kA (And.intro c2 c515);have CB:Hid ((w3.drew.alloc (.cells ([.int .i64 id,.int .i64 nw]:List Value).toArray 196)).cell? ⟨g,515,none⟩=some gv3/\(w3.drew.alloc (.cells ([.int .i64 id,.int .i64 nw]:List Value).toArray 196)).cell? ⟨g,2,none⟩=some (.int .i64 nw)):=kA ⟨zam (w:=w3.drew) c515 (zaa _ _),zam (w:=w3.drew) c2 (zaa _ _)⟩;clear h3 Ri Rj ZQ Dm c2 c515 hD;go_upto_region 7 with fail;refine wp_region_held_drew (S:=λw'=>w'.cell? ⟨g,2,none⟩=some (.int .i64 nw)) oM (CW.1) (λhHeld=> ?_);refine tk 0 hHeld ?_;refine tk 1 hHeld ?_;refine tk 2 hHeld ?_;refine tk 3 hHeld ?_;refine tk 5 hHeld ?_;refine tk 6 hHeld ?_;refine tk 7 hHeld ?_;refine tk 8 hHeld ?_;refine tk 9 hHeld ?_;refine tk 10 hHeld ?_;refine zbv (i:=4) (j:=11) (v:=gv3) (u:= .slice (some ⟨w3.heap.size,0,none⟩) 1 1) (w':=w3.drew.alloc (.cells ([.int .i64 id,.int .i64 nw]:List Value).toArray 196)) rfl rfl oM oM oM (by rfl) (by rfl) (by rfl) (by rfl) (zaW rfl rfl underlying136 CW.2) (zbE rfl rfl (znN id nw _)) (zbE rfl rfl (znN id nw _)) (zaW rfl rfl underlying136 CB.1) rfl hHeld CB.2 ?_;simp only[Act.put,getElem_toArray,getElem_cons_zero,getElem_cons_succ,setIfInBounds_toArray,set_cons_zero,set_cons_succ];clear hHeld CW CB;have X3:(S.go.map mkG).length<=2000:=by rw[length_map];omega
  refine rd 12 (λK hK=> ?_);rw[if_pos (by rfl)];refine zdt (.tmp 27) (.tmp 34) 136 196 2 16 (.agg #[.int .i64 0,.int .i64 0]) cG rfl underlying136 zAf rfl (by decide) (by decide) (λ_=>rfl) gv3 (S.go.map mkG) rfl ((HD.keep (zaa _ _)).gos) X3 (mkG (id,nw)) [.int .i64 id,.int .i64 nw] rfl (zAg id nw) w3.heap.size (Blk.new _ _ _) rfl ?_;intro gu gcap w4 hc Hj Rk;have Vf:zy0 w4 (.slice (some ⟨gu,0,none⟩) ((S.go.map mkG).length+1) gcap) (S.go++[(id,nw)]):=by
   show ColX w4 _ 2 cG _ ((S.go++[(id,nw)]).map mkG);rw[map_append];exact hc
  generalize (S.go.map mkG).length+1=nn at Vf ⊢;obtain⟨Qd,dX⟩:=HD.gone_ Ve.1 (zaa _ _) Hj Vf Rk
  have j6:Hid (CM w (w4.setCell ⟨g,515,none⟩ (.slice (some ⟨gu,0,none⟩) nn gcap)) g F (deS S id) ls lt):=kA (by
   have h9:=Qd;rw[yo.out]at h9;rw[Bi.out]
   exact CM.join (Fr.behind Ve.2.1 (za5 (Below.refl _ _))) Ve.2.2 h9)
  have c4:w4.cell? ⟨g,2,none⟩=some (.int .i64 nw):=by rw[dX.cell om,yo.out];rfl
  have d4:w4.cell? ⟨g,515,none⟩=some gv3:=by rw[dX.cell om];rfl
  have f4:w4.frozen? ⟨g,515,none⟩=false:=dX.frozen _;have Xj:g<w4.heap.size:=dX.lt;have c5:(w4.setCell ⟨g,515,none⟩ (.slice (some ⟨gu,0,none⟩) nn gcap)).cell? ⟨g,2,none⟩=some (.int .i64 nw):=by rw[(dX.set 515 _).cell om,if_neg om,yo.out];rfl
  clear hc Vf Hj Rk dX Qd;refine hK.out _ _ c4 (λhHeld=> ?_);clear hK K;simp only[Act.put,getElem_toArray,getElem_cons_zero,getElem_cons_succ,setIfInBounds_toArray,set_cons_zero,set_cons_succ];refine tk 13 hHeld ?_;refine tk 14 hHeld ?_;refine rd 15 (λK hK=> ?_);go_simp;refine hK.out _ _ c5 (λhHeld=> ?_);clear hK K;refine wpAnyH_done oM ?_ _;clear hHeld;refine fin (λW=>Chg LSB w W g F (deS S id)) (LSB.of_cm j6 Bh) ?_;clear j6 c4 c5 d4 f4 Xj;rintro W Hg;have Hw:=kA Hg;clear Hg;go_wp2;go_ret;exact⟨by rw[e4.out];rfl,Hw⟩
theorem zoN(h0:LSB w g F S)(hW:WS S)(hB:Bd S 1000)(P:PT):
  Calls prog 62 #[.pointer (some ⟨g,0,none⟩),.agg (pl P).toArray] w λe w'=>e= .returned (.tuple #[.int .i64 (spV S P),.int .i64 (spE S P)])/\Chg LSB w w' g F (spS S P):=by
 have H0:=kA h0;have hg:=h0.inH;have ko:=kA (pxs P);obtain⟨b,hb⟩:∃b,b=zaz P:=⟨_,rfl⟩;have dM:Hid (∀u,Calls prog 110 #[.agg (pl P).toArray] u λe w'=>e= .returned (.bool b)/\Bw u w'):=kA (λu=>zek hb.symm u)
 have xR:Hid (b=true->∀u,Bw w u->∃p,u.cell? ⟨g,0,none⟩=some (.pointer (some ⟨p,0,none⟩))/\Calls prog 111 #[.pointer (some ⟨p,0,none⟩)] u λe w1=>e= .returned (.tuple #[.int .i64 (tkV S.G S.L S.room),.int .i64 (tkE S.G S.L S.room)])/\(tkE S.G S.L S.room≠0->Chg LSB w w1 g F (spS S P))/\(∀b,b<u.heap.size->¬F b->w1.heap[b]? =u.heap[b]?)/\
   (tkE S.G S.L S.room=0->Calls prog 112 #[.pointer (some ⟨g,0,none⟩),.int .i64 (tkV S.G S.L S.room),.agg (pl P).toArray] w1 λe w2=>e= .returned (.tuple #[])/\Chg LSB w w2 g F (spS S P))):=kA (λxI u q=>by
  rw[hb]at xI;have hE:spE S P=tkE S.G S.L S.room:=by unfold spE;rw[if_pos xI]
  obtain⟨ls,lt,⟨p,mb,ts,Lf,gv,lab,h,hF⟩,hI⟩:=h0;have h1:=h.keep q;refine⟨p,h1.c0,?_⟩;refine (zAd p S.room S.G S.L u hW.ok.1 hW.ok.gen h1.pool).mono ?_;rintro e w1 ⟨rfl,hr,Hj⟩;have Kf:=h1.pooled hF Hj hr;refine⟨rfl,λHo=> ?_,λb Ht hn=>Kf.blk Ht hn,λhz=> ?_⟩
  ·have hS:spS S P=S:=by unfold spS;rw[if_neg (by rw[hE];exact Ho)]
   have hL:tkL S.G S.L S.room=S.L:=by
    cases ht:tkI S.G S.L S.room with
    | none=>exact (zqm ht).2.2
    | some i=>exact absurd (zgH ht).2 Ho
   rw[hL]at Kf;rw[hS];exact LSB.of_cm (Kf.of q) hI
  ·obtain⟨YX,hd,hin⟩:=ziv hW (P:=P) (by rw[hE];exact hz);have hV:spV S P=tkV S.G S.L S.room:=by unfold spV;rw[if_pos (by rw[hE];exact hz)]
   have j9:spS S P={ S with L:=tkL S.G S.L S.room,T:=upf S.T P.1.toNat (zjq P.1 (S.T P.1.toNat) (tkV S.G S.L S.room) P),ch:=zb8 S.ch (tkV S.G S.L S.room) S.now }:=by unfold spS;rw[if_pos (by rw[hE];exact hz)]
   rw[hV]at hin hd;obtain⟨Zk,XA,_,_⟩:=zdL xI;have CV:zai (spS S P) (tkV S.G S.L S.room)=true:=(YX.live _).2 ⟨P,(hin _ _).2 (.inr ⟨rfl,rfl⟩)⟩;have j8:=hI.put hW YX hin (by rw[j9]) (by rw[j9]) (by rw[j9]);obtain⟨F1,kj,Kw,dh⟩:=Kf;refine (znJ kj (tkV S.G S.L S.room) (zje CV) P Zk XA.symm (hB.2.2.1 _ Zk)).mono ?_;rintro e w2 ⟨rfl,hc⟩;refine⟨rfl,LSB.of_cm ?_ j8⟩;have di:=((CM.join Kw dh hc).of q).chs (zb8 S.ch (tkV S.G S.L S.room) S.now);rw[j9];rw[XA]at di
   exact di)
 have YY:Hid (b=false->spV S P=0/\spE S P=1/\spS S P=S):=kA (λc=>by
  have e1:spE S P=1:=by unfold spE;rw[<-hb,c];rfl
  refine⟨by unfold spV;rw[e1];rfl,e1,by unfold spS;rw[e1];rfl⟩)
 have DL:Hid (b=true->spE S P=tkE S.G S.L S.room/\(tkE S.G S.L S.room=0->spV S P=tkV S.G S.L S.room)/\(tkE S.G S.L S.room≠0->spV S P=0)):=kA (λc=>by
  have e1:spE S P=tkE S.G S.L S.room:=by unfold spE;rw[<-hb,c];rfl
  exact⟨e1,λz=>by unfold spV;rw[e1,z];rfl,λz=>by unfold spV;rw[e1,if_neg z]⟩)
 obtain⟨X,hX⟩:∃X,X=pl P:=⟨_,rfl⟩;rw[<-hX]at ko dM xR ⊢;obtain⟨v,hv⟩:∃v,v=tkV S.G S.L S.room:=⟨_,rfl⟩;obtain⟨E,Qa⟩:∃E,E=tkE S.G S.L S.room:=⟨_,rfl⟩;rw[<-hv,<-Qa]at xR DL;have KX:=kA (Blk.new w 52 X.toArray);have Ha:Hid (Bw w (w.alloc (.cells X.toArray 52))):=kA (zaa _ _)
 have Yj:Hid (¬F w.heap.size):=kA (by
  obtain⟨ls,lt,⟨p,mb,ts,Lf,gv,lab,h,hF⟩,hI⟩:=h0
  exact λc=>by have:=h.inb _ ((hF _).1 c);omega)
 clear hX hb hv Qa h0 hW hB;go_enter func62,ntmps62;go_upto_region 1 with fail;refine fin (λW=>Blk W w.heap.size 52 X.toArray/\Bw w W) ⟨KX,Ha⟩ ?_;clear KX Ha;rintro W0 ⟨kx,Hq⟩;have KX:=kA kx;have Ha:=kA Hq;have zx:=kx.lt;have zg:g<W0.heap.size:=Nat.lt_of_lt_of_le hg Hq.size;clear kx Hq;go_wp2_with (refine za6 rfl 52 (.tmp 3) rfl w.heap.size 0 rfl X _ (zac KX) underlying52 rfl ko.2.1 ?_);refine (dM _).mono ?_;rintro e w1 ⟨rfl,b1⟩;replace KX:=kA (Blk.keep KX b1);replace Ha:=kA (zad Ha b1);clear b1 zx zg;have zx:=KX.lt;have zg:g<w1.heap.size:=Nat.lt_of_lt_of_le hg Ha.size
 cases b with
 | false=>
  obtain⟨v1,v2,v3⟩:=YY.out rfl;have V1:=kA v1;have V2:=kA v2;have V3:=kA v3;clear v1 v2 v3 xR DL YY;go_wp2;go_ret2;exact⟨by rw[V1.out,V2.out];rfl,by rw[V3.out];exact LSB.still H0 Ha⟩
 | true=>
  obtain⟨v1,v2,v3⟩:=DL.out rfl;have V1:=kA v1;have V2:=kA v2;have V3:=kA v3;obtain⟨p,cp,Rl⟩:=xR.out rfl _ Ha;have Rm:=kA Rl;clear v1 v2 v3 xR DL YY Rl;go_wp2_with fail;refine Rm.mono ?_;rintro e w2 ⟨rfl,hno,hblk,DI⟩;have Hm:=kA hno;have Ja:=kA DI;replace KX:=kA (KX.same (hblk _ zx Yj));clear hno DI hblk zx zg cp Rm;have zx:=KX.lt
  by_cases hE:E=0
  ·replace Ja:=kA (Ja hE);have V4:=kA (V2 hE);have V5:=kA (V1.trans hE);clear V1 V2 V3 Hm;subst hE;go_wp2_with (refine wpList_load_mid rfl 52 (.tmp 3) rfl w.heap.size 0 rfl X _ (zac KX) underlying52 rfl ko.2.1 ?_);refine Ja.mono ?_;rintro e w3 ⟨rfl,hc⟩;have HC:=kA hc;clear hc;go_wp2;go_ret2;exact⟨by rw[V4.out,V5.out];rfl,HC⟩
  ·have Ho:(E != 0)=true:=by simpa using hE
   have HC:=kA (Hm hE);have V4:=kA (V3 hE);clear V2 V3 Hm Ja;go_wp2;go_ret2;exact⟨by rw[V4.out,V1.out];rfl,HC⟩
theorem zuo(h0:LSB w g F S)(hW:WS S):
  Calls prog 92 #[.pointer (some ⟨g,0,none⟩)] w λe w'=>∃a cap,e= .returned (.slice a (alS S).length cap)/\Row w' a (alS S).length (alS S)/\Bw w w':=by
 have hg:=h0.inH;obtain⟨p,c0,_,Hf⟩:=h0.live;have CX:=kA (Hf hW.ok);clear Hf h0 hW;go_enter func92,ntmps92;go_wp2_with fail;refine CX.mono ?_;rintro e w1 ⟨a,cap,rfl,hr,hb⟩;have HR:=kA (And.intro hr hb);clear hr hb;go_wp2;go_ret;exact⟨a,cap,rfl,HR.1,HR.2⟩
theorem zrW(h0:LSB w g F S):
  Calls prog 43 #[.pointer (some ⟨g,0,none⟩)] w λe w'=>e= .returned (.int .i64 S.now)/\Bw w w':=by
 have hg:=h0.inH;obtain⟨ls,lt,⟨p,mb,ts,Lf,gv,lab,h,hF⟩,hI⟩:=h0;have c2:=h.c2;clear h hF hI;go_enter func43,ntmps43;go_wp2;go_ret;exact⟨rfl,Below.refl _ _⟩
theorem zrX(h0:LSB w g F S)(hB:Bd S 1000):
  Calls prog 79 #[.pointer (some ⟨g,0,none⟩)] w λe w'=>e= .returned (.int .i64 (S.now+1))/\Chg LSB w w' g F (neS S):=by
 have hg:=h0.inH;obtain⟨ls,lt,⟨p,mb,ts,Lf,gv,lab,h,hF⟩,hI⟩:=h0;have c2:=h.c2;have f2:=h.row.frozen 2;have hr:=h.row.set 2 (.int .i64 (S.now+1));have HC:Hid (Chg LSB w (w.setCell ⟨g,2,none⟩ (.int .i64 (S.now+1))) g F (neS S)):=kA (LSB.of_cm (LM.cells (F:=F) h hF (now':=S.now+1) (zaR w g _ _) (hr.congr (λj _=>zug _ j))) hI.ne);have C4:0<S.now:=hB.2.2.2.1;have dh:S.now<=1001:=by have:=hB.2.2.2.2.1;omega
 obtain⟨nw,Dm⟩:∃nw,nw=S.now:=⟨_,rfl⟩;rw[<-Dm]at c2 C4 dh HC ⊢;clear h hF hI hr hB Dm;go_enter func79,ntmps79;go_wp2;go_ret;exact⟨rfl,HC⟩
end Go.Proofs.YtlibdcmcbinfnaaGreat
