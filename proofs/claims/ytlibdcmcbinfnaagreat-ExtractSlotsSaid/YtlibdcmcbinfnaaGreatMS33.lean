/- Lemmas. -/
import Derived.Test.YtlibdcmcbinfnaaGreatMS32
set_option maxHeartbeats 100000000
set_option maxRecDepth 1000000
namespace Go.Proofs.YtlibdcmcbinfnaaGreat
open _root_.Go.Proofs.Tryz List Nat
open Go.RowKit
variable{k i row g a mb n:Nat}{w w':World}{v:Nat->Value}{R:TR}{s x id:Int}{P:PT}{L L':Nat->Prop}{X:Nat->TR}{o:Option Nat}{ts:Nat->Option Nat}
theorem ze6(s:Int){k:Nat}(hk:k<5):((k:Int)∈zaT s)↔zaV s k=true:=by
 unfold zaT;rw[mem_filter,zcq om];have:(k:Int)∈([0,1,2,3,4]:List Int):=by
  obtain rfl | rfl | rfl | rfl | rfl:k=0∨k=1∨k=2∨k=3∨k=4:=om
  all_goals decide
 simp[this]
theorem zkx(s:Int){i:Nat}(hi:i<8):zwI s i=true↔(i=0∨kC i∈zaT s):=by
 have k0:=ze6 s (k:=0) om;have k1:=ze6 s (k:=1) om;have k2:=ze6 s (k:=2) om;have k3:=ze6 s (k:=3) om;rcases lt8 hi with rfl | rfl | rfl | rfl | rfl | rfl | rfl | rfl
 ·simp[zwI]
 all_goals
  simp only[zwI,kC];simp
  first | exact k0.symm | exact k1.symm | exact k2.symm | exact k3.symm
theorem zyV(s:Int)(R:TR)(y:Int × PT){i:Nat}(hi:i<8):zdd (zaT s) (Rs s R) y i=Rs s (R++[y]) i:=by
 unfold zdd Rs
 by_cases c:zwI s i=true
 ·rw[if_pos ((zkx s hi).1 c),if_pos c,if_pos c]
 ·rw[if_neg (λd=>c ((zkx s hi).2 d)),if_neg c,if_neg c]
theorem zyW(s:Int)(R:TR)(row:Nat)(y:Int × PT){i:Nat}(h0:1<=i)(hi:i<8):zbb (Rs s R) row y 8 i=Rs s (R.set row y) i:=by
 unfold zbb Rs;rw[if_pos ⟨h0,hi⟩]
 split
 ·rfl
 ·simp
theorem zyX(s:Int)(R:TR)(row i:Nat):zc3 (Rs s R i) row=Rs s (zc3 R row) i:=by
 unfold Rs
 split
 ·rfl
 ·unfold zc3;rw[if_neg (by simp)]
theorem zud{v:Value}(h:Col w 0 v R)(P:PT):Col w 0 v (R.set row ((R.getD row d0).1,P)):=by
 have e:∀R:TR,R.flatMap cId=(R.map Prod.fst).map (λx=>Value.int .i64 x):=λR=>by
  induction R with
  | nil=>rfl
  | cons x r ih=>rw[flatMap_cons,ih];rfl
 have e2:(R.set row ((R.getD row d0).1,P)).map Prod.fst=R.map Prod.fst:=by
  rw[List.map_set]
  by_cases c:row<R.length
  ·have:(R.getD row d0).1=(R.map Prod.fst)[row]'(by simpa using c):=by simp[getD,getElem?_eq_getElem c]
   rw[this,set_getElem_self]
  ·exact set_eq_of_length_le (by simpa using Nat.le_of_not_lt c)
 show w.ownsRow 0 _ _ v _ ((R.set row ((R.getD row d0).1,P)).flatMap cId);rw[e,e2,<-e,length_set];exact h
theorem zxi(h:Tab w g s v (zbb (Rs s R) row ((R.getD row d0).1,P) 8)):Tab w g s v (Rs s (R.set row ((R.getD row d0).1,P))):=
 ⟨h.blk,λi hi=>by
  by_cases c:i=0
  ·subst c;exact zud (h.own 0 om) P
  ·rw[<-zyW s R row _ om hi]
   exact h.own i hi,h.far,h.off⟩
theorem zyY(hs:0<=s/\s<=31)(hr:row<R.length)(hf:∀x∈R,zbN s x.2=true):(rdL (Rs s R) row).set 0 (.int .i64 s)=pl (R.getD row d0).2:=by
 have hm:R.getD row d0∈R:=by
  have:=zbi hr;exact mem_of_getElem? this
 have Kx:=hf _ hm;obtain⟨P,hP⟩:∃P,P=(R.getD row d0).2:=⟨_,rfl⟩;rw[<-hP]at Kx ⊢;unfold zbN at Kx;rw[Bool.and_eq_true,beq_iff_eq]at Kx;have hb:=zhP Kx.1;rw[Kx.2]at hb;rw[<-hb];have e1:s % 32=s:=om;have g:∀i,(Rs s R i).getD row d0=if zwI s i then R.getD row d0 else d0:=λi=>by unfold Rs;split <;> rfl
 unfold rdL;rw[g,g,g,g,g,g,g];show PL s _ _ _ _ _ _ _=pl (zcQ s P);unfold pl zcQ;simp only[e1,hP];unfold zwI
 cases zaV s 0 <;> cases zaV s 1 <;> cases zaV s 2 <;> cases zaV s 3 <;> rfl
theorem TBl.keep(h:TBl w g L s R)(hb:Bw w w'):TBl w' g L s R:=by
 obtain⟨v,h1,h2⟩:=h;exact⟨v,h1.keep hb,h2⟩
theorem zoL(W:World):(Instr.build 52 #[]).run prog W= .ok (.agg (pl zT).toArray) W:=oM
theorem zl3{ops:Array Oper}{rest:List Oper}{op:Oper}{a:Go.Act}{Q:Exit->Go.Act->World->Prop}(kX:op.guard=none)(t:TypeId)(ho:op.op= .build t #[])(vr:Value)
  (Hi:∀W,(Instr.build t #[]).run prog W= .ok vr W)
  (h:wpList prog ops Q rest (a.put op.dst vr) w):wpList prog ops Q (op::rest) a w:=
 wpList_plain kX λK hK=>by
  have h2:=hK _ _ h;unfold Oper.wp execOp;simp only[ho];simp[Hi];exact h2
theorem ze7{fn:Func}{tmps:Array Value}{s r q:Tmp}{t:TypeId}{v u x:Value}(hr:fn.results= #[.tmp q,.cell s t,.tmp r])(hp:tmps.getD s undef= .pointer (some ⟨g,0,none⟩))(hu:tmps.getD r undef=u)(hx:tmps.getD q undef=x)(hl:(loadVar t ⟨g,0,none⟩).run prog w= .ok v w):(results fn tmps).run prog w= .ok (.tuple #[x,v,u]) w:=by
 unfold results;rw[hr];have hp':tmps[s]?.getD undef= .pointer (some ⟨g,0,none⟩):=by simpa using hp
 have Yx:tmps[r]?.getD undef=u:=by simpa using hu
 have hx':tmps[q]?.getD undef=x:=by simpa using hx
 simp[hp',Yx,hx',hl,asAddr]
theorem zyZ(h0:Tab w g s v X)(row:Int)(hb:thB (X 0).length row=false):
  Calls prog 262 #[.pointer (some ⟨g,0,none⟩),.int .i64 row] w λe w'=>e= .returned (.tuple #[.int .i64 0,.agg (pl zT).toArray,.bool false])/\Bw w w':=by
 have HT:=kA (h0.keep (zaa w (.cells Z24.toArray 52)));have HB:=kA hb;have Ko:=kA zoL;have Hb:=kA (zaJ zT);have Hh:=kA (zbL zT);have HO:=kA (zc8 zT);have HL:Hid ((pl zT).length=Z24.length):=kA rfl;obtain⟨Xp,Hz⟩:∃Xp,Xp=pl zT:=⟨_,rfl⟩;rw[<-Hz]at Ko Hb Hh HO HL;rw[<-Hz];have K5:=kA (Blk.new w 52 Z24.toArray);have ZY:Hid ((w.alloc (.cells Z24.toArray 52)).there w.heap.size 0 Xp.toArray.size):=kA (zae K5 (by rw[size_toArray,HL.out];omega));have L5:Hid (Blk ((w.alloc (.cells Z24.toArray 52)).setCells w.heap.size 0 Xp) w.heap.size 52 Xp.toArray):=kA (zal K5 HL);clear Hz hb h0;go_enter func262,ntmps262;go_wp2_with fail;refine (zdc HT row HB).mono ?_;rintro e w1 ⟨rfl,rfl⟩;go_wp2_with (first | refine zl3 rfl 52 rfl (.agg Xp.toArray) Ko ?_ | refine wpList_store_mid rfl 52 (.tmp 5) (.tmp 12) rfl w.heap.size 0 Xp.toArray rfl rfl ZY Hh HO ?_)
 refine fin (λW=>Blk W w.heap.size 52 Xp.toArray/\Bw w W) ⟨L5,zab _ (zaa _ _) (Nat.le_refl _)⟩ ?_;rintro W ⟨kr,hb⟩;have hl:=run_loadVar_mid W w.heap.size 0 52 Xp _ (zac kr) underlying52 rfl Hb
 try simp only[Go.Act.put,setIfInBounds_toArray,set_cons_zero,set_cons_succ]
 exact bodyPost_ret (v:= .tuple #[.int .i64 0,.agg Xp.toArray,.bool false]) (ze7 results262 rfl rfl rfl hl) rfl ⟨rfl,hb⟩
theorem zxj(h0:Tab w g s v X)(hX:∀i,i<8->(X i).length<=1000)(row:Nat)(hr:row<(X 0).length)(Xp:List Value)(Hz:(rdL X row).set 0 (.int .i64 s)=Xp)(hO:Xp.toArray.all (·.oneCell')=true):
  Calls prog 262 #[.pointer (some ⟨g,0,none⟩),.int .i64 row] w λe w'=>e= .returned (.tuple #[.int .i64 ((X 0).getD row d0).1,.agg Xp.toArray,.bool true])/\Bw w w':=by
 obtain⟨gi,cap,cur,xy,kD,hcap,Hr,_,_⟩:=(h0.own 0 om).open_ om;have Hc:=h0.own 0 om;rw[xy]at Hc;have ci:=zdb (ColX.range (c:=cId) (k:=1) (λ_=>rfl) Hc (zbi hr));have ku:Xp.length=24:=by rw[<-Hz];rfl
 have Hb:Hid ((prog.info? 52).map (·.size)=some Xp.length):=kA (by rw[ku];exact zb7 0 zI 0 zI 0 0 false 0);have Hh:Hid ((prog.info? 52).map (·.size)=some Xp.toArray.size):=kA (by rw[size_toArray,ku];exact zb7 0 zI 0 zI 0 0 false 0);have HO:=kA hO;have HL:=kA ku;have Xo:(rdL X row).toArray.all (·.oneCell')=true:=zfE _ _ _ _ _ _ _ _;have dS:Hid (∀u,Bw w u->Calls prog 289 #[.pointer (some ⟨g,1,none⟩),.int .i64 row] u λe w'=>e= .returned (.agg (rdL X row).toArray)/\Bw u w'):=kA (λu k=>ztn (h0.keep k) hX row);have ki:Hid (∀u,Bw w u->Calls prog 247 #[.pointer (some ⟨g,0,none⟩),.int .i64 row] u λe w'=>e= .returned (.bool true)/\u=w'):=kA (λu k=>zdc (h0.keep k) row (by unfold thB;rw[show decide ((0:Int)<=(row:Int))=true by simp,show decide ((row:Int)<((X 0).length:Int))=true by simpa using hr];rfl));have CC:Hid (∀u,Bw w u->u.cell? ⟨g,0,none⟩=some (.int .i64 s)/\u.cell? ⟨g,1,none⟩=some (.slice (some ⟨gi,0,none⟩) (X 0).length cap)/\u.cell? ⟨gi,row,none⟩=some (.int .i64 ((X 0).getD row d0).1)):=kA (λu k=>⟨(h0.keep k).set0,by rw[<-xy];exact ((h0.keep k).cell (j:=0) om).1,zam ci k⟩);have hg:=h0.blk.lt;have bR:=kD.lt;have bS:=hX 0 om;obtain⟨rid,ck⟩:∃rid,rid=((X 0).getD row d0).1:=⟨_,rfl⟩;rw[<-ck]at CC ⊢;obtain⟨n,hn⟩:∃n,n=(X 0).length:=⟨_,rfl⟩;rw[<-hn]at CC hr bS hcap;obtain⟨Y,hY⟩:∃Y,Y=rdL X row:=⟨_,rfl⟩;have vV:Y.length=24:=by rw[hY];rfl
 have jZ:=kA vV;rw[<-hY]at dS Hz Xo;have bT:=kA Xo;have bU:Hid ((prog.info? 52).map (·.size)=some Y.toArray.size):=kA (by rw[size_toArray,vV];exact zb7 0 zI 0 zI 0 0 false 0);have r0:(0:Int)<=(row:Int):=om;have r1:(row:Int)<(n:Int):=om;have vC:=kA Hz;unfold maxLen at Hr;have K5:=kA (Blk.new w 52 Z24.toArray);have j3:Hid (Bw w (w.alloc (.cells Z24.toArray 52))):=kA (zaa _ _);clear Hz Xo hY hn ck ku kD ci Hc xy h0 hX hO vV;go_enter func262,ntmps262;go_upto_region 1 with fail;refine fin (λW=>Blk W w.heap.size 52 Z24.toArray/\Bw w W) ⟨K5,j3⟩ ?_;clear K5 j3;rintro W ⟨k5,hb⟩;have K5:=kA k5;have HB:=kA hb;clear k5 hb;go_wp2_with fail;refine (ki _ HB).mono ?_;rintro e w1 ⟨rfl,rfl⟩;go_wp2_with fail;refine (dS _ HB).mono ?_;rintro e w1 ⟨rfl,b1⟩;replace K5:=kA (Blk.keep K5 b1);replace HB:=kA (zad HB b1);clear b1 ki dS;have bV:w.heap.size<w1.heap.size:=K5.lt;have K7:=kA (Blk.new w1 52 Z24.toArray);have qV:Hid ((w1.alloc (.cells Z24.toArray 52)).there w1.heap.size 0 Y.toArray.size):=kA (zae K7 (by rw[size_toArray,jZ.out];exact Nat.le_refl 24));have L7:Hid (Blk ((w1.alloc (.cells Z24.toArray 52)).setCells w1.heap.size 0 Y) w1.heap.size 52 Y.toArray/\Blk ((w1.alloc (.cells Z24.toArray 52)).setCells w1.heap.size 0 Y) w.heap.size 52 Z24.toArray/\Bw w ((w1.alloc (.cells Z24.toArray 52)).setCells w1.heap.size 0 Y)):=kA ⟨zal K7 jZ,zat _ (K5.alloc _) om,zab _ (zag HB _) om⟩;go_upto_region 4 with (refine wpList_store_mid rfl 52 (.tmp 7) (.tmp 17) rfl w1.heap.size 0 Y.toArray rfl rfl qV bU bT ?_);refine fin (λW=>Blk W w1.heap.size 52 Y.toArray/\Blk W w.heap.size 52 Z24.toArray/\Bw w W) L7 ?_;obtain⟨g7,Ck⟩:∃g7,g7=w1.heap.size:=⟨_,rfl⟩;rw[<-Ck];rw[<-Ck]at bV;clear L7 qV K7 K5 HB Ck;rintro W1 ⟨k7,k5,hb⟩;obtain⟨c0,-,-⟩:=CC.out _ hb;obtain⟨rW,vW⟩:∃rW,W1.cell? ⟨g7,0,none⟩=some rW:=by
  rw[k7.cell 0];exact⟨Y[0]'(by rw[jZ.out];omega),by simp[jZ.out]⟩
 have f70:=k7.frozen 0;have vX:=k7.lt;have rY:g<W1.heap.size:=Nat.lt_of_lt_of_le hg hb.size
 have L7:Hid (Blk (W1.setCell ⟨g7,0,none⟩ (.int .i64 s)) g7 52 Xp.toArray/\Blk (W1.setCell ⟨g7,0,none⟩ (.int .i64 s)) w.heap.size 52 Z24.toArray/\Bw w (W1.setCell ⟨g7,0,none⟩ (.int .i64 s))):=kA ⟨by
  have:=k7.set_ 0 (.int .i64 s);rw[<-vC.out]
  simpa using this,k5.far (p:=⟨g7,0,none⟩) (by simp;omega) _,hb.setCell (p:=⟨g7,0,none⟩) (by simp;omega) _⟩
 clear k7 k5 hb;go_upto_region 5 with fail;refine fin (λW=>Blk W g7 52 Xp.toArray/\Blk W w.heap.size 52 Z24.toArray/\Bw w W) L7 ?_;clear L7 c0 vW f70 vX rY;rintro W2 ⟨k7,k5,hb⟩;have K7:=kA (Blk.drew k7);have K5:=kA (Blk.drew k5);have HB:=kA (zwK hb);have bW:w.heap.size<W2.heap.size:=k5.lt;clear k7 k5 hb;refine wp_region_held_drew (S:=λw'=>w'.cell? ⟨g,1,none⟩=some (.slice (some ⟨gi,0,none⟩) n cap)/\w'.cell? ⟨gi,row,none⟩=some (.int .i64 rid)/\w'.rangeAt g7 0 Xp) oM (⟨(CC _ HB).2.1,(CC _ HB).2.2,zac K7⟩) (λhHeld=> ?_);refine tk 0 hHeld ?_;refine tk 1 hHeld ?_;refine tk 2 hHeld ?_;refine tk 3 hHeld ?_;refine tk 4 hHeld ?_;refine tk 5 hHeld ?_;refine tk 6 hHeld ?_;refine tk 7 hHeld ?_;refine tkl 8 rfl (yieldsIf_load_mid (by rfl) _ _ rfl _ _ rfl _ _ (λ_ h=>h.2.2) underlying52 rfl Hb) hHeld ?_;refine tk 9 hHeld ?_;have cY:Hid (Blk (W2.drew.setCells w.heap.size 0 Xp) w.heap.size 52 Xp.toArray):=kA (zal K5 HL);refine rd 10 (λK hK=> ?_);rw[if_pos (by rfl)];refine wp_store_mid 52 _ _ rfl w.heap.size 0 Xp.toArray rfl rfl (zae K5 (by rw[size_toArray,HL.out];exact Nat.le_refl 24)) Hh HO ?_;refine hK.out _ _ ⟨(CC _ (zab _ HB (Nat.le_refl _))).2.1,(CC _ (zab _ HB (Nat.le_refl _))).2.2,zac (zat _ K7 om)⟩ (λhHeld=> ?_);clear hK K;refine tk 11 hHeld ?_;refine wpAnyH_done oM ?_ _;clear hHeld;go_wp2_with fail;refine fin (λW=>Blk W w.heap.size 52 Xp.toArray/\Bw w W) ⟨cY,zab _ HB (Nat.le_refl _)⟩ ?_;rintro W ⟨kr,hb⟩;have hl:=run_loadVar_mid W w.heap.size 0 52 Xp _ (zac kr) underlying52 rfl Hb
 try simp only[Go.Act.put,setIfInBounds_toArray,set_cons_zero,set_cons_succ]
 exact bodyPost_ret (v:= .tuple #[.int .i64 rid,.agg Xp.toArray,.bool true]) (ze7 results262 rfl rfl rfl hl) rfl ⟨rfl,hb⟩
theorem zl4{row:Int}(h:inR R row=true):∃r:Nat,row=(r:Int)/\r<R.length:=by
 unfold inR at h;rw[Bool.and_eq_true,decide_eq_true_eq,decide_eq_true_eq]at h;exact⟨row.toNat,om,om⟩
theorem zue(h:zcW R id=true):0<=zaB R id:=by
 unfold zaB
 cases hf:R.findIdx? (λr=>r.1==id) with
 | none=>
  rw[findIdx?_eq_none_iff]at hf;unfold zcW at h;rw[any_eq_true]at h;obtain⟨x,hx,e⟩:=h;rw[hf x hx]at e
  cases e
 | some i=>exact Int.natCast_nonneg i
theorem zoM(h:zcW R id=false):zaB R id= -1:=by
 unfold zaB
 have:R.findIdx? (λr=>r.1==id)=none:=findIdx?_eq_none_iff.2 (λx hx=>by
  unfold zcW at h;rw[any_eq_false]at h
  simpa using h x hx)
 rw[this]
theorem zxk(hf:∀x∈R,zbN s x.2=true)(hP:zbN s P=true):∀y∈R.set i (x,P),zbN s y.2=true:=λy hy=>by
 rcases mem_or_eq_of_mem_set hy with h | h
 ·exact hf y h
 ·rw[h];exact hP
theorem zxl(hf:∀x∈R,zbN s x.2=true)(hP:zbN s P=true):∀y∈R++[(x,P)],zbN s y.2=true:=λy hy=>by
 rcases mem_append.1 hy with h | h
 ·exact hf y h
 ·rw[mem_singleton.1 h];exact hP
theorem zrN(hf:∀x∈R,zbN s x.2=true)(hi:i<R.length):∀y∈zc3 R i,zbN s y.2=true:=λy hy=>by
 unfold zc3 at hy;rw[if_pos hi]at hy;rcases mem_or_eq_of_mem_set (mem_of_mem_take hy) with h | h
 ·exact hf y h
 ·rw[h];refine hf _ ?_;exact mem_of_getElem? (zbi om)
theorem zgf{v':Nat->Value}(hL:∀b,L b↔zgP g v b)(st:Step w w' g v v'):Fr w w' L/\∀b,zgP g v' b->L b∨w.heap.size<=b:=
 ⟨st.fr.of (λb h=>(hL b).2 h),λb h=>(st.new b h).imp (λc=>(hL b).2 c) id⟩
theorem zjb(hR:R.length<=1000):∀i,i<8->(Rs s R i).length<=1000:=λi _=>Nat.le_trans (zyy s R i) hR
theorem zrO(h:zbN s P=false)(R:TR)(row id:Int):zqf s R row P=1/\zhs s R row P=R/\zpj s R id P=1/\zu6 s R id P=0/\zjq s R id P=R:=by
 have e1:zqf s R row P=1:=by unfold zqf;rw[h];rfl
 have e2:zpj s R id P=1:=by unfold zpj;rw[h];rfl
 refine⟨e1,?_,e2,?_,?_⟩
 ·unfold zhs;rw[e1];rfl
 ·unfold zu6;rw[e2];rfl
 ·unfold zjq;rw[e2];rfl
theorem znE(w:World)(g:Nat)(L:Nat->Prop)(s:Int)(R:TR)(row:Int)(P:PT)(hR:R.length<=1000)(h:TBl w g L s R):
  Calls prog 273 #[.pointer (some ⟨g,0,none⟩),.int .i64 row,.agg (pl P).toArray] w λe w'=>∃L',e= .returned (.int .i64 (zqf s R row P))/\TBl w' g L' s (zhs s R row P)/\Fr w w' L/\∀b,L' b->L b∨w.heap.size<=b:=by
 obtain⟨v,h1,hL,hs,hf⟩:=h;have xx:=kA h1;have Zh:=kA hL;have Zi:=kA hs;have Xw:=kA hf;have hg:=h1.blk.lt;have Hb:=kA (zaJ P);have HP:Hid (¬zgP g v w.heap.size):=kA (λc=>by have:=h1.inb _ c;omega);obtain⟨bf,hbf⟩:∃bf,zbN s P=bf:=⟨_,rfl⟩;have Kn:Hid (∀u,Bw w u->Calls prog 240 #[.pointer (some ⟨g,0,none⟩),.agg (pl P).toArray] u λe w'=>e= .returned (.bool bf)/\Bw u w'):=kA (λu k=>zm3 (h1.keep k) P hbf);obtain⟨bt,xI⟩:∃bt,inR R row=bt:=⟨_,rfl⟩;have ki:Hid (∀u,Bw w u->Calls prog 247 #[.pointer (some ⟨g,0,none⟩),.int .i64 row] u λe w'=>e= .returned (.bool bt)/\u=w'):=kA (λu k=>zdc (h1.keep k) row (X:=Rs s R) xI)
 have vY:Hid (∀u (r:Nat) (i0:Int),Bw w u->row=(r:Int)->Calls prog 299 #[.pointer (some ⟨g,1,none⟩),.int .i64 row,.agg (pl P).toArray] u λe w'=>e= .returned (.tuple #[])/\Tab w' g s v (zbb (Rs s R) r (i0,P) 8)/\Step u w' g v v):=kA (λu r i0 k e=>by
  obtain⟨hh,M,m,B,p,a,c,l⟩:=P;rw[e]
  exact zqL (h1.keep k) (zjb hR) r i0 hh M m B p a c l)
 have j4:=kA hbf;have xg:=kA xI;obtain⟨Xp,Hz⟩:∃Xp,Xp=pl P:=⟨_,rfl⟩;rw[<-Hz]at Hb Kn vY;rw[<-Hz];clear Hz h1 hL hs hf hbf xI;have KP:=kA (Blk.new w 52 Xp.toArray);have HB:Hid (Bw w (w.alloc (.cells Xp.toArray 52))):=kA (zaa _ _);go_enter func273,ntmps273;go_wp2_with (refine wpList_load_mid rfl 52 (.tmp 5) rfl w.heap.size 0 rfl Xp _ (zac KP) underlying52 rfl Hb ?_);refine (Kn _ HB).mono ?_;rintro e w1 ⟨rfl,b1⟩;replace KP:=kA (Blk.keep KP b1);replace HB:=kA (zad HB b1);clear b1 Kn
 cases bf with
 | false=>
  go_wp2;go_ret;obtain⟨e1,e2,_⟩:=zrO j4 R row 0;refine⟨L,by rw[e1];rfl,?_,?_,λb hb=>Or.inl hb⟩
  ·rw[e2];exact TBl.keep ⟨v,xx.out,Zh.out,Zi.out,Xw⟩ HB
  ·exact⟨HB.os,HB.tape,HB.output,HB.size,λk hk _=>HB.block k hk⟩
 | true=>
  go_wp2_with fail;refine (ki _ HB).mono ?_;rintro e w2 ⟨rfl,rfl⟩;clear ki
  cases bt with
  | false=>
   go_wp2;go_ret;have e1:zqf s R row P=4:=by unfold zqf;rw[j4.out,xg.out];rfl
   refine⟨L,by rw[e1];rfl,?_,?_,λb hb=>Or.inl hb⟩
   ·unfold zhs;rw[e1];exact TBl.keep ⟨v,xx.out,Zh.out,Zi.out,Xw⟩ HB
   ·exact⟨HB.os,HB.tape,HB.output,HB.size,λk hk _=>HB.block k hk⟩
  | true=>
   obtain⟨r,hr,hlt⟩:=zl4 xg;have HR:=kA hr;have CI:=kA hlt;clear hr hlt;go_upto_region 5 with fail;refine wp_region_held_drew (S:=λw'=>w'.rangeAt w.heap.size 0 Xp) oM (zac (Blk.drew KP)) (λhHeld=> ?_);refine tk 0 hHeld ?_;refine tk 1 hHeld ?_;refine tk 2 hHeld ?_;refine tk 3 hHeld ?_;refine tkl 4 rfl (yieldsIf_load_mid (by rfl) _ _ rfl _ _ rfl _ _ (λ_ h=>h) underlying52 rfl Hb) hHeld ?_;refine rd 5 (λK hK=> ?_);go_simp
   go_at_call 299
   refine (vY _ r (R.getD r d0).1 (zwK HB) HR).mono ?_;rintro e w2 ⟨rfl,ht,hst⟩;have KN:=kA (hst.blk (Blk.drew KP) HP);have Xx:=kA ht;have j5:=kA ((Step.below (g:=g) (v:=v) (zwK HB)).trans hst);clear ht hst vY;go_wp2_with fail;refine hK.out _ _ (zac KN) (λhHeld=> ?_);clear hK K;refine wpAnyH_done oM ?_ _;clear hHeld KN KP;go_wp2;go_ret;have e1:zqf s R row P=0:=by unfold zqf;rw[j4.out,xg.out];rfl
   have e2:zhs s R row P=R.set r ((R.getD r d0).1,P):=by unfold zhs;rw[e1,HR.out];rfl
   obtain⟨o1,o2⟩:=zgf Zh j5;refine⟨zgP g v,by rw[e1];rfl,?_,o1,o2⟩;rw[e2];exact⟨v,zxi Xx,λ_=>Iff.rfl,Zi.out,zxk Xw j4⟩
theorem znF(w:World)(g:Nat)(L:Nat->Prop)(s:Int)(R:TR)(id:Int)(P:PT)(hR:R.length<=1000)(h:TBl w g L s R):
  Calls prog 180 #[.pointer (some ⟨g,0,none⟩),.int .i64 id,.agg (pl P).toArray] w λe w'=>∃L',e= .returned (.tuple #[.int .i64 (zu6 s R id P),.int .i64 (zpj s R id P)])/\TBl w' g L' s (zjq s R id P)/\Fr w w' L/\∀b,L' b->L b∨w.heap.size<=b:=by
 obtain⟨v,h1,hL,hs,hf⟩:=h;have xx:=kA h1;have Zh:=kA hL;have Zi:=kA hs;have Xw:=kA hf;have hg:=h1.blk.lt;have Hb:=kA (zaJ P);have HP:Hid (¬zgP g v w.heap.size):=kA (λc=>by have:=h1.inb _ c;omega);obtain⟨bf,hbf⟩:∃bf,zbN s P=bf:=⟨_,rfl⟩;have Kn:Hid (∀u,Bw w u->Calls prog 240 #[.pointer (some ⟨g,0,none⟩),.agg (pl P).toArray] u λe w'=>e= .returned (.bool bf)/\Bw u w'):=kA (λu k=>zm3 (h1.keep k) P hbf);obtain⟨q,hq⟩:∃q,zaB R id=q:=⟨_,rfl⟩;have yk:Hid (∀u,Bw w u->Calls prog 241 #[.pointer (some ⟨g,0,none⟩),.int .i64 id] u λe w'=>e= .returned (.int .i64 q)/\u=w'):=kA (λu k=>hq ▸ ziG (h1.keep k) hR id)
 have Ch:Hid (∀u,Bw w u->Calls prog 242 #[.pointer (some ⟨g,1,none⟩),.int .i64 id,.agg (pl P).toArray] u λe w'=>e= .returned (.tuple #[])/\∃v',Tab w' g s v' (zdd (zaT P.1) (Rs s R) (id,P))/\Step u w' g v v'):=kA (λu k=>by
  obtain⟨hh,M,m,B,p,a,c,l⟩:=P
  exact zjU (h1.keep k) (zjb hR) id hh M m B p a c l)
 have j4:=kA hbf;have HQ:=kA hq;obtain⟨Xp,Hz⟩:∃Xp,Xp=pl P:=⟨_,rfl⟩;rw[<-Hz]at Hb Kn Ch;rw[<-Hz];clear Hz h1 hL hs hf hbf hq;have KP:=kA (Blk.new w 52 Xp.toArray);have HB:Hid (Bw w (w.alloc (.cells Xp.toArray 52))):=kA (zaa _ _);go_enter func180,ntmps180;go_wp2_with (refine wpList_load_mid rfl 52 (.tmp 5) rfl w.heap.size 0 rfl Xp _ (zac KP) underlying52 rfl Hb ?_);refine (Kn _ HB).mono ?_;rintro e w1 ⟨rfl,b1⟩;replace KP:=kA (Blk.keep KP b1);replace HB:=kA (zad HB b1);clear b1 Kn
 cases bf with
 | false=>
  go_wp2;go_ret2;obtain⟨_,_,e1,e2,e3⟩:=zrO j4 R 0 id;refine⟨L,by rw[e1,e2];rfl,?_,?_,λb hb=>Or.inl hb⟩
  ·rw[e3];exact TBl.keep ⟨v,xx.out,Zh.out,Zi.out,Xw⟩ HB
  ·exact⟨HB.os,HB.tape,HB.output,HB.size,λk hk _=>HB.block k hk⟩
 | true=>
  go_wp2_with fail;refine (yk _ HB).mono ?_;rintro e w2 ⟨rfl,rfl⟩;clear yk
  by_cases hi:zcW R id=true
  ·have q0:0<=q:=HQ.out ▸ zue hi;have HI:=kA hi;clear hi;go_wp2;go_ret2;have e1:zpj s R id P=5:=by unfold zpj;rw[j4.out,HI.out];rfl
   have e2:zu6 s R id P=0:=by unfold zu6;rw[e1];rfl
   refine⟨L,by rw[e1,e2];rfl,?_,?_,λb hb=>Or.inl hb⟩
   ·unfold zjq;rw[e1];exact TBl.keep ⟨v,xx.out,Zh.out,Zi.out,Xw⟩ HB
   ·exact⟨HB.os,HB.tape,HB.output,HB.size,λk hk _=>HB.block k hk⟩
  ·have hi':zcW R id=false:=by simpa using hi
   obtain rfl:q= -1:=HQ.out ▸ zoM hi';have HI:=kA hi';clear hi hi';go_upto_region 5 with fail;refine wp_region_held_drew (S:=λw'=>w'.rangeAt w.heap.size 0 Xp) oM (zac (Blk.drew KP.out)) (λhHeld=> ?_);refine tk 0 hHeld ?_;refine tk 1 hHeld ?_;refine tk 2 hHeld ?_;refine tk 3 hHeld ?_;refine tkl 4 rfl (yieldsIf_load_mid (by rfl) _ _ rfl _ _ rfl _ _ (λ_ h=>h) underlying52 rfl Hb.out) hHeld ?_;refine rd 5 (λK hK=> ?_);go_simp
   go_at_call 242
   refine (Ch _ (zwK HB)).mono ?_;rintro e w2 ⟨rfl,v2,ht,hst⟩;have KN:=kA (hst.blk (Blk.drew KP) HP);have cW:P.1=s:=by
    have:=j4.out;unfold zbN at this;rw[Bool.and_eq_true,beq_iff_eq]at this;exact this.2
   rw[cW]at ht;have Xx:=kA (ht.ext (λi hi=>zyV s R (id,P) hi));have j5:=kA ((Step.below (g:=g) (v:=v) (zwK HB)).trans hst);clear ht hst Ch cW;go_wp2_with fail;refine hK.out _ _ (zac KN) (λhHeld=> ?_);clear hK K;refine wpAnyH_done oM ?_ _;clear hHeld KN KP;have Bl:((R.length:Nat):Int)<=1000:=om;have kG:Hid (Calls prog 243 #[.pointer (some ⟨g,0,none⟩)] w2 λe w'=>e= .returned (.int .i64 ((R.length:Int)+1))/\w2=w'):=kA ((ziF Xx).mono λ_ _ k=>⟨by rw[k.1,Rs0,length_append];rfl,k.2⟩);go_wp2_with fail;refine kG.mono ?_;rintro e w3 ⟨rfl,rfl⟩;clear kG;go_wp2;go_ret2;have e1:zpj s R id P=0:=by unfold zpj;rw[j4.out,HI.out];rfl
   have e2:zu6 s R id P=(R.length:Int):=by unfold zu6;rw[e1];rfl
   have e3:zjq s R id P=R++[(id,P)]:=by unfold zjq;rw[e1];rfl
   obtain⟨o1,o2⟩:=zgf Zh j5;refine⟨zgP g v2,by rw[e1,e2];rfl,?_,o1,o2⟩;rw[e3];exact⟨v2,Xx.out,λ_=>Iff.rfl,Zi.out,zxl Xw j4⟩
theorem znG(w:World)(g:Nat)(L:Nat->Prop)(s:Int)(R:TR)(row:Int)(hR:R.length<=1000)(h:TBl w g L s R):
  Calls prog 186 #[.pointer (some ⟨g,0,none⟩),.int .i64 row] w λe w'=>∃L',e= .returned (.tuple #[.int .i64 (zu7 R row),.int .i64 (zxZ R row)])/\TBl w' g L' s (zd9 R row)/\Fr w w' L/\∀b,L' b->L b∨w.heap.size<=b:=by
 have bX:=kA h;obtain⟨v,h1,hL,hs,hf⟩:=h;have Zh:=kA hL;have Zi:=kA hs;have Xw:=kA hf;have hg:=h1.blk.lt;obtain⟨bt,xI⟩:∃bt,inR R row=bt:=⟨_,rfl⟩;have ki:Hid (Calls prog 247 #[.pointer (some ⟨g,0,none⟩),.int .i64 row] w λe w'=>e= .returned (.bool bt)/\w=w'):=kA (zdc h1 row (X:=Rs s R) xI);have rZ:Hid (∀r:Nat,row=(r:Int)->Calls prog 248 #[.pointer (some ⟨g,1,none⟩),.int .i64 row] w λe w'=>e= .returned (.tuple #[])/\∃v',Tab w' g s v' (λi=>zc3 (Rs s R i) r)/\Step w w' g v v'):=kA (λr e=>by rw[e];exact zlz h1 (zjb hR) r);have xg:=kA xI;clear h1 hL hs hf xI
 cases bt with
 | false=>
  go_enter func186,ntmps186;go_wp2_with fail;refine ki.mono ?_;rintro e w1 ⟨rfl,rfl⟩;go_wp2;go_ret2;have e1:zxZ R row=4:=by unfold zxZ;rw[xg.out];rfl
  have e2:zu7 R row= -1:=by unfold zu7;rw[xg.out];rfl
  have e3:zd9 R row=R:=by unfold zd9;rw[xg.out];rfl
  refine⟨L,by rw[e1,e2];rfl,by rw[e3];exact bX.out,⟨rfl,rfl,rfl,Nat.le_refl _,λ_ _ _=>rfl⟩,λb hb=>Or.inl hb⟩
 | true=>
  obtain⟨r,hr,hlt⟩:=zl4 xg;have e1:Hid (zxZ R row=0):=kA (by unfold zxZ;rw[xg.out];rfl);have e3:Hid (zd9 R row=zc3 R r):=kA (by unfold zd9 zc3;rw[xg.out,if_pos hlt,hr];rfl);have dj:(zc3 R r).length=R.length - 1:=by unfold zc3;rw[if_pos hlt,length_take,length_set];omega
  have qW:=kA dj;have HR:=kA hr;have CI:=kA hlt;clear hr hlt dj;go_enter func186,ntmps186;go_wp2_with fail;refine ki.mono ?_;rintro e w1 ⟨rfl,rfl⟩;go_wp2_with fail;refine (rZ r HR).mono ?_;rintro e w1 ⟨rfl,v',ht,hst⟩;have Xx:=kA (ht.ext (λi _=>zyX s R r i));have j5:=kA hst;clear ht hst ki rZ;have yj:g<w1.heap.size:=Xx.blk.lt
  by_cases vZ:r+1<R.length
  ·have ki:Hid (Calls prog 247 #[.pointer (some ⟨g,0,none⟩),.int .i64 row] w1 λe w'=>e= .returned (.bool true)/\w1=w'):=kA (zdc Xx row (by
    rw[Rs0,qW.out,HR.out];unfold thB;rw[Bool.and_eq_true,decide_eq_true_eq,decide_eq_true_eq]
    omega))
   obtain⟨gi,cap,cur,xy,kD,hcap,Hr,_,_⟩:=(Xx.own 0 om).open_ (by rw[Rs0,qW.out];omega);have Hc:=Xx.own 0 om;rw[xy]at Hc;have ci:=zdb (ColX.range (c:=cId) (k:=1) (λ_=>rfl) Hc (zbi (i:=r) (by rw[Rs0,qW.out];omega)));have cc:w1.cell? ⟨g,1,none⟩=some (v' 0):=(Xx.cell (j:=0) om).1;rw[xy]at cc;have bR:=kD.lt;have ev:zu7 R row=((Rs s (zc3 R r) 0).getD r d0).1:=by
    unfold zu7;rw[xg.out,HR.out,if_pos rfl,if_pos om,Rs0];unfold zc3;rw[if_pos CI.out];congr 1;rw[getD,getD,getElem?_take,if_pos om,getElem?_set_self CI];rfl
   have r7:=kA ev;obtain⟨x,hx⟩:∃x,x=((Rs s (zc3 R r) 0).getD r d0).1:=⟨_,rfl⟩;rw[<-hx]at ci r7;obtain⟨n,hn⟩:∃n,n=(Rs s (zc3 R r) 0).length:=⟨_,rfl⟩;have qe:n=R.length - 1:=by rw[hn,Rs0,qW.out]
   rw[<-hn]at cc hcap;have r0:(0:Int)<=row:=by rw[HR.out];omega
   have r1:row<(n:Int):=by rw[HR.out];omega
   have r2:row.toNat=r:=by rw[HR.out];rfl
   unfold maxLen at Hr;clear hn hx ev Hc kD xy qe;go_wp2_with fail;refine ki.mono ?_;rintro e w2 ⟨rfl,rfl⟩;clear ki;go_wp2;go_ret2;obtain⟨o1,o2⟩:=zgf Zh j5;refine⟨zgP g v',by rw[e1.out,r7.out];rfl,?_,o1,o2⟩;rw[e3.out];exact⟨v',Xx.out,λ_=>Iff.rfl,Zi.out,zrN Xw CI⟩
  ·have ki:Hid (Calls prog 247 #[.pointer (some ⟨g,0,none⟩),.int .i64 row] w1 λe w'=>e= .returned (.bool false)/\w1=w'):=kA (zdc Xx row (by
    rw[Rs0,qW.out,HR.out];unfold thB;rw[Bool.and_eq_false_iff]
    exact .inr (by rw[decide_eq_false_iff_not];omega)))
   have ev:Hid (zu7 R row= -1):=kA (by unfold zu7;rw[xg.out,HR.out,if_pos rfl,if_neg om]);clear vZ;go_wp2_with fail;refine ki.mono ?_;rintro e w2 ⟨rfl,rfl⟩;clear ki;go_wp2;go_ret2;obtain⟨o1,o2⟩:=zgf Zh j5;refine⟨zgP g v',by rw[e1.out,ev.out];rfl,?_,o1,o2⟩;rw[e3.out];exact⟨v',Xx.out,λ_=>Iff.rfl,Zi.out,zrN Xw CI⟩
theorem znH(w:World)(g:Nat)(L:Nat->Prop)(s:Int)(R:TR)(row:Int)(hR:R.length<=1000)(h:TBl w g L s R):
  Calls prog 262 #[.pointer (some ⟨g,0,none⟩),.int .i64 row] w λe w'=>∃ (x:Int) (P:PT),e= .returned (.tuple #[.int .i64 x,.agg (pl P).toArray,.bool (inR R row)])/\(inR R row=true->(x,P)=R.getD row.toNat d0)/\Bw w w':=by
 obtain⟨v,h1,hL,hs,hf⟩:=h
 by_cases hi:inR R row=true
 ·obtain⟨r,hr,hlt⟩:=zl4 hi;rw[hi,hr];exact (zxj h1 (zjb hR) r hlt (pl (R.getD r d0).2) (zyY hs hlt hf) (zc8 _)).mono λe w' k=>⟨(R.getD r d0).1,(R.getD r d0).2,k.1,λ_=>rfl,k.2⟩
 ·have hi':inR R row=false:=by simpa using hi
  rw[hi'];exact (zyZ h1 row hi').mono λe w' k=>⟨0,zT,k.1,λc=>(by cases c),k.2⟩
theorem tc_holds:TC TBl:=
 ⟨λw w' g L s R h he=>by
   obtain⟨v,h1,hL,h2⟩:=h;exact⟨v,h1.same (λb hb=>he b ((hL b).2 hb)),hL,h2⟩,
  λw g L s R h b hb=>by
   obtain⟨v,h1,hL,_⟩:=h;exact h1.inb b ((hL b).1 hb),
  λw s hs=>zqN w s hs,
  λw g L s R id P hR h=>znF w g L s R id P hR h,
  λw g L s R row P hR h=>znE w g L s R row P hR h,
  λw g L s R row hR h=>znG w g L s R row hR h,
  λw g L s R row hR h=>znH w g L s R row hR h,
  λw g L s R id hR h=>by
   obtain⟨v,h1,_⟩:=h;exact (ziG h1 hR id).mono λe w' k=>⟨k.1,k.2 ▸ Below.refl _ _⟩,
  λw g L s R hR h=>by
   obtain⟨v,h1,_⟩:=h
   exact (ziF h1).mono λe w' k=>⟨k.1,k.2 ▸ Below.refl _ _⟩⟩
def mkG(m:Int × Int):Int × PT:=(m.1,m.2,zI,0,zI,0,0,false,0)
def cG(x:Int × PT):List Value:=[.int .i64 x.1,.int .i64 x.2.1]
def zy0(w:World)(v:Value)(l:List (Int × Int)):Prop:=ColX w 196 2 cG v (l.map mkG)
def lF(p mb:Nat)(now:Int)(ls lt:Nat->Int)(gv:Value)(j:Nat):Value:=
 if j=0 then .pointer (some ⟨p,0,none⟩) else if j=1 then .map (some mb) else if j=2 then .int .i64 now else if j<515 then (if j % 2=1 then .int .i64 (ls ((j - 3) / 2)) else .int .i64 (lt ((j - 4) / 2))) else gv
section
variable {p mb:Nat} {now:Int} {ls lt:Nat->Int} {gv:Value} {k:Nat}
theorem zy1(hk:k<256):lF p mb now ls lt gv (3+k*2)= .int .i64 (ls k):=by
 unfold lF;rw[if_neg om,if_neg om,if_neg om,if_pos om,if_pos om,show (3+k*2 - 3) / 2=k by omega]
theorem zxm(hk:k<256):lF p mb now ls lt gv (3+k*2+1)= .int .i64 (lt k):=by
 unfold lF;rw[if_neg om,if_neg om,if_neg om,if_pos om,if_neg om,show (3+k*2+1 - 4) / 2=k by omega]
theorem zky(hk:k<256)(v:Int)(j:Nat):(if j=3+k*2+1 then .int .i64 v else lF p mb now ls lt gv j)=lF p mb now ls (upf lt k v) gv j:=by
 unfold lF upf
 by_cases c:j=3+k*2+1
 ·rw[if_pos c,if_neg om,if_neg om,if_neg om,if_pos om,if_neg om,if_pos om]
 ·rw[if_neg c]
  by_cases c0:j=0
  ·rw[if_pos c0,if_pos c0]
  ·rw[if_neg c0,if_neg c0]
   by_cases c1:j=1
   ·rw[if_pos c1,if_pos c1]
   ·rw[if_neg c1,if_neg c1]
    by_cases c2:j=2
    ·rw[if_pos c2,if_pos c2]
    ·rw[if_neg c2,if_neg c2]
     by_cases c3:j<515
     ·rw[if_pos c3,if_pos c3]
      by_cases c4:j % 2=1
      ·rw[if_pos c4,if_pos c4]
      ·rw[if_neg c4,if_neg c4,if_neg om]
     ·rw[if_neg c3,if_neg c3]
theorem zuf(hk:k<256)(v:Int)(j:Nat):(if j=3+k*2 then .int .i64 v else lF p mb now ls lt gv j)=lF p mb now (upf ls k v) lt gv j:=by
 unfold lF upf
 by_cases c:j=3+k*2
 ·rw[if_pos c,if_neg om,if_neg om,if_neg om,if_pos om,if_pos om,if_pos om]
 ·rw[if_neg c]
  by_cases c0:j=0
  ·rw[if_pos c0,if_pos c0]
  ·rw[if_neg c0,if_neg c0]
   by_cases c1:j=1
   ·rw[if_pos c1,if_pos c1]
   ·rw[if_neg c1,if_neg c1]
    by_cases c2:j=2
    ·rw[if_pos c2,if_pos c2]
    ·rw[if_neg c2,if_neg c2]
     by_cases c3:j<515
     ·rw[if_pos c3,if_pos c3]
      by_cases c4:j % 2=1
      ·rw[if_pos c4,if_pos c4,if_neg om]
      ·rw[if_neg c4,if_neg c4]
     ·rw[if_neg c3,if_neg c3]
theorem zug(v:Int)(j:Nat):(if j=2 then .int .i64 v else lF p mb now ls lt gv j)=lF p mb v ls lt gv j:=by
 unfold lF
 by_cases c:j=2
 ·rw[if_pos c,if_neg om,if_neg om,if_pos c]
 ·rw[if_neg c,if_neg c,if_neg c]
theorem zxn(v:Value)(j:Nat)(hj:j<516):(if j=515 then v else lF p mb now ls lt gv j)=lF p mb now ls lt v j:=by
 unfold lF
 by_cases c:j=515
 ·rw[if_pos c,if_neg om,if_neg om,if_neg om,if_neg om]
 ·rw[if_neg c]
  by_cases c3:j<515
  ·rw[if_pos c3,if_pos c3]
  ·omega
end
def tV:Option Nat->Value
 | some b=> .pointer (some ⟨b,0,none⟩)
 | none=> .pointer none
def tD:Option Nat->DataW Unit
 | some b=> .lit (.int .i64 b)
 | none=> .nil
def tR:Value->Option (DataW Unit × List MemPlace)
 | .pointer none=>some (.nil,[])
 | .pointer (some a)=>if a=⟨a.block,0,none⟩ then some (.lit (.int .i64 a.block),[]) else none
 | _=>none
theorem tR_V(o:Option Nat):tR (tV o)=some (tD o,[]):=by cases o <;> simp[tV,tD,tR]
theorem zy2{v:Value}{ps:List MemPlace}(h:tR v=some (tD o,ps)):v=tV o:=by
 unfold tR at h
 split at h
 ·cases o
  ·rfl
  ·simp[tD]at h
 ·rename_i a
  by_cases c:a=⟨a.block,0,none⟩
  ·rw[if_pos c]at h
   cases o with
   | none=>simp[tD]at h
   | some b=>
    simp[tD]at h;have:a.block=b:=om;unfold tV;rw[c,this]
  ·rw[if_neg c]at h
   cases h
 ·cases h
theorem zjc:Go.Maps.Keyed prog 43:=Go.Maps.int_keyed underlying43
theorem zy3(w:World):(zeroValue 271).run prog w= .ok (.pointer none) w:=oM
theorem zrP(hi:i<32):keyOf prog 43 (.int .i64 i)=some (.int .i64 i):=by
 refine Go.Maps.keyOf_int_mk underlying43 ?_;have h:decide (IntKind.i64.min<=(i:Int))=true:=decide_eq_true (by show (-9223372036854775808:Int)<=_;omega);have h':decide ((i:Int)<=IntKind.i64.max)=true:=decide_eq_true (by show _<=(9223372036854775807:Int);omega);show (decide (IntKind.i64.min<=(i:Int)) && decide ((i:Int)<=IntKind.i64.max))=true;rw[h,h'];rfl
def tsK(ts:Nat->Option Nat):List Int:=((range 32).filter λi=>(ts i).isSome).map λ(i:Nat)=>(i:Int)
theorem zxo:x∈tsK ts↔∃i:Nat,i<32/\(ts i).isSome=true/\x=(i:Int):=by
 unfold tsK;rw[mem_map];constructor
 ·rintro⟨i,hi,rfl⟩;rw[mem_filter,mem_range]at hi;exact⟨i,hi.1,hi.2,rfl⟩
 ·rintro⟨i,hi,hs,rfl⟩;exact⟨i,by rw[mem_filter,mem_range];exact⟨hi,hs⟩,rfl⟩
theorem zy4(ts:Nat->Option Nat):(tsK ts).Pairwise (·<·):=by
 unfold tsK;refine List.pairwise_map.2 ((List.Pairwise.filter _ pairwise_lt_range).imp fun {a b} h=> ?_);omega
theorem zxp(ts:Nat->Option Nat):(tsK ts).length<=32:=by
 unfold tsK;rw[length_map];have:=length_filter_le (λi=>(ts i).isSome) (range 32)
 rwa [length_range]at this
def TK(D:DataW Unit)(ts:Nat->Option Nat):Prop:=(∀i:Nat,i<32->D.atKey (.int .i64 i) .nil=tD (ts i)/\Maps.has D (.int .i64 i)=(ts i).isSome)/\∀x:Int,Maps.has D (.int .i64 x)=true->0<=x/\x<32
def TM(w:World)(mb:Nat)(ts:Nat->Option Nat):Prop:=∃D:DataW Unit,w.ownsMap prog 43 tR mb 32 D/\TK D ts
theorem TK.keys{D:DataW Unit}(hw:w.ownsMap prog 43 tR mb n D)(h:TK D ts):(tsK ts).Perm (intKeys D):=by
 refine CollectedI.perm (left:=λ_=>false) ⟨(zy4 ts).imp (fun {a b} c=>om),λx=> ?_⟩ hw zjc underlying43 (λ_=>rfl);rw[zxo];constructor
 ·rintro⟨i,hi,hs,rfl⟩;exact⟨by rw[(h.1 i hi).2];exact hs,rfl⟩
 ·rintro⟨hx,_⟩;obtain⟨h0,h1⟩:=h.2 x hx;obtain⟨i,rfl⟩:∃i:Nat,x=(i:Int):=⟨x.toNat,om⟩;have hi:i<32:=om;exact⟨i,hi,by rw[<-(h.1 i hi).2];exact hx,rfl⟩
theorem TK.size{D:DataW Unit}(hw:w.ownsMap prog 43 tR mb n D)(h:TK D ts):Maps.size D<=32:=by
 have hp:=(h.keys hw).length_eq;have hl:=zxp ts;obtain⟨es,rfl,_⟩:=hw.entries zjc;unfold intKeys at hp;rw[length_map]at hp;rw[Maps.size_eq];omega
theorem zuh{m:Nat}{D:DataW Unit}(hw:w.ownsMap prog 43 tR mb n D)(h:Maps.size D<=m):w.ownsMap prog 43 tR mb m D:=by
 obtain⟨es,clock,hb,F,hs,hD⟩:=hw;refine⟨es,clock,hb,F,?_,hD⟩;have e1:Maps.size D=es.size:=by rw[hD];simp[Maps.size,length_sorted]
 omega
theorem TM.lt(h:TM w mb ts):mb<w.heap.size:=by
 obtain⟨D,hD,_⟩:=h;exact hD.lt
theorem TM.same(h:TM w mb ts)(he:w'.heap[mb]? =w.heap[mb]?):TM w' mb ts:=by
 obtain⟨D,⟨es,clock,hb,F,hs,hD⟩,hk⟩:=h;exact⟨D,⟨es,clock,he.trans hb,F,hs,hD⟩,hk⟩
theorem TM.new(w:World):TM (w.alloc (.map #[] 0)) w.heap.size (λ_=>none):=
 ⟨.map [],(World.ownsMap_made w _ _ _).mono om,λ_ _=>⟨rfl,rfl⟩,λx h=>by cases h⟩
theorem TM.get(h:TM w mb ts){i:Nat}(hi:i<32):(Instr.lookup 132 (.map (some mb)) (.int .i64 i) false).run prog w= .ok (tV (ts i)) w:=by
 obtain⟨D,hD,hk⟩:=h;obtain⟨v,ps,Hi,hv⟩:=hD.lookup zjc underlying132 (zy3 w) (zd:= .nil) (zp:=[]) rfl (zrP hi);rw[(hk.1 i hi).1]at hv;rw[Hi,zy2 hv]
theorem TM.put(h:TM w mb ts){i:Nat}(hi:i<32)(b:Nat):
  ∃w',(Instr.mapUpdate 132 (.map (some mb)) (.int .i64 i) (.pointer (some ⟨b,0,none⟩))).run prog w= .ok () w'/\TM w' mb (upf ts i (some b))/\w.grownBy w' (some mb):=by
 obtain⟨D,hD,hk⟩:=h;obtain⟨w',Hi,h1,h2⟩:=hD.update zjc underlying132 (by unfold maxLen;omega) (zrP hi) (tR_V (some b));have hm:Maps.IsMap D:=hD.isMap;have hK:WideAt.IsKeyLit (.int .i64 (i:Int)):=trivial;have Ho:∀ {x:Int},x≠(i:Int)->(Lit.int .i64 x)≠.int .i64 (i:Int):=λhx e=>by injection e with _ e;exact hx e
 have Cs:TK (D.put (.int .i64 (i:Int)) (tD (some b))) (upf ts i (some b)):=by
  refine⟨λj hj=> ?_,λx hx=> ?_⟩
  ·by_cases c:j=i
   ·subst c;have e:upf ts j (some b) j=some b:=by unfold upf;rw[if_pos rfl]
    rw[e,Maps.atKey_put_same hm hK,Maps.has_put_same hm hK];exact⟨rfl,rfl⟩
   ·have e:upf ts i (some b) j=ts j:=by unfold upf;rw[if_neg c]
    have hx:((j:Nat):Int)≠(i:Int):=om;rw[e,Maps.atKey_put_other (Ho hx),Maps.has_put_other (Ho hx)];exact hk.1 j hj
  ·by_cases c:x=(i:Int)
   ·omega
   ·rw[Maps.has_put_other (Ho c)]at hx;exact hk.2 x hx
 exact⟨w',Hi,⟨_,zuh h1 (Cs.size h1),Cs⟩,h2⟩
def TO(w:World)(o:Option Nat)(L:Nat->Prop)(i:Nat)(R:TR):Prop:=match o with
 | some b=>TBl w b L i R
 | none=>R=[]/\∀b,¬L b
structure LM (w:World) (g:Nat) (S:St) (p mb:Nat) (ls lt:Nat->Int) (ts:Nat->Option Nat) (Lf:Nat->Nat->Prop) (gv:Value) (lab:Nat->Nat):Prop where
 row:w.rowIs g 138 516 (lF p mb S.now ls lt gv)
 pool:w.rowIs p 189 513 (zbC S.room S.G S.L)
 map:TM w mb ts
 tab:∀i,i<32->TO w (ts i) (Lf i) i (S.T i)
 gos:zy0 w gv S.go
 lg:lab g=0
 lp:lab p=1
 lm:lab mb=2
 lv:∀b,gv.ownBlock=some b->lab b=3
 lT:∀i,i<32->∀b,Lf i b->lab b=4+i
def zc1(g p mb:Nat)(Lf:Nat->Nat->Prop)(gv:Value)(b:Nat):Prop:=b=g∨b=p∨b=mb∨gv.ownBlock=some b∨∃i,i<32/\Lf i b
theorem TO.inb(h:TO w o L i R):∀b,L b->b<w.heap.size:=by
 cases o with
 | none=>exact λb c=>absurd c (h.2 b)
 | some a=>exact λb c=>tc_holds.2.1 w a L i R h b c
theorem TO.same(h:TO w o L i R)(he:∀b,L b->w'.heap[b]? =w.heap[b]?):TO w' o L i R:=by
 cases o with
 | none=>exact h
 | some a=>exact tc_holds.1 w w' a L i R h he
section
variable {w w':World} {g p mb:Nat} {S:St} {ls lt:Nat->Int} {ts:Nat->Option Nat} {Lf:Nat->Nat->Prop} {gv:Value} {lab:Nat->Nat}
theorem LM.inb(h:LM w g S p mb ls lt ts Lf gv lab):∀b,zc1 g p mb Lf gv b->b<w.heap.size:=by
 rintro b (rfl | rfl | rfl | e | ⟨i,hi,e⟩)
 ·exact h.row.lt
 ·exact h.pool.lt
 ·exact h.map.lt
 ·exact (World.ownsRow.lt h.gos b e).2
 ·exact (h.tab i hi).inb b e
theorem LM.same(h:LM w g S p mb ls lt ts Lf gv lab)(he:∀b,zc1 g p mb Lf gv b->w'.heap[b]? =w.heap[b]?):LM w' g S p mb ls lt ts Lf gv lab:=
 ⟨h.row.of_block (he g (.inl rfl)),h.pool.of_block (he p (.inr (.inl rfl))),h.map.same (he mb (.inr (.inr (.inl rfl)))),λi hi=>(h.tab i hi).same (λb c=>he b (.inr (.inr (.inr (.inr ⟨i,hi,c⟩))))),
  ColX.same h.gos (λb e=>he b (.inr (.inr (.inr (.inl e))))),h.lg,h.lp,h.lm,h.lv,h.lT⟩
theorem LM.keep(h:LM w g S p mb ls lt ts Lf gv lab)(hb:Bw w w'):LM w' g S p mb ls lt ts Lf gv lab:=h.same (λb hf=>hb.block b (h.inb b hf))
end
def LB(w:World)(g:Nat)(F:Nat->Prop)(S:St)(ls lt:Nat->Int):Prop:=∃p mb ts Lf gv lab,LM w g S p mb ls lt ts Lf gv lab/\∀b,F b↔zc1 g p mb Lf gv b
def CM(w w':World)(g:Nat)(F:Nat->Prop)(S:St)(ls lt:Nat->Int):Prop:=∃F',LB w' g F' S ls lt/\Fr w w' F/\∀b,F' b->F b∨w.heap.size<=b
section
variable {w w' w1 w2:World} {g p mb:Nat} {S S' mA:St} {ls lt ls' lt':Nat->Int} {ts:Nat->Option Nat} {Lf:Nat->Nat->Prop} {gv:Value} {lab:Nat->Nat} {F:Nat->Prop}
theorem LB.keep(h:LB w g F S ls lt)(hb:Bw w w'):LB w' g F S ls lt:=by
 obtain⟨p,mb,ts,Lf,gv,lab,h1,h2⟩:=h;exact⟨p,mb,ts,Lf,gv,lab,h1.keep hb,h2⟩
theorem LB.inH(h:LB w g F S ls lt):g<w.heap.size:=by
 obtain⟨p,mb,ts,Lf,gv,lab,h1,h2⟩:=h;exact h1.row.lt
theorem zxq(w:World)(F:Nat->Prop):Fr w w F:=⟨rfl,rfl,rfl,Nat.le_refl _,λ_ _ _=>rfl⟩
theorem CM.still(h:LB w g F S ls lt)(hb:Bw w w'):CM w w' g F S ls lt:=
 ⟨F,h.keep hb,⟨hb.os,hb.tape,hb.output,hb.size,λb hl _=>hb.block b hl⟩,λ_ h=>Or.inl h⟩
theorem CM.of(h:CM w1 w2 g F S ls lt)(hb:Bw w w1):CM w w2 g F S ls lt:=by
 obtain⟨F',h1,h2,h3⟩:=h;exact⟨F',h1,Fr.after hb h2,λb hf=>(h3 b hf).imp_right (λc=>Nat.le_trans hb.size c)⟩
theorem CM.back(h:CM w w1 g F S ls lt)(hb:Bw w1 w2):CM w w2 g F S ls lt:=by
 obtain⟨F',h1,h2,h3⟩:=h;exact⟨F',h1.keep hb,Fr.behind h2 hb,h3⟩
theorem LM.others(h:LM w g S p mb ls lt ts Lf gv lab){k:Nat}(hb:∀b,b<w.heap.size->lab b≠k->w'.heap[b]? =w.heap[b]?):
  (k≠0->w'.rowIs g 138 516 (lF p mb S.now ls lt gv))/\(k≠1->w'.rowIs p 189 513 (zbC S.room S.G S.L))/\(k≠2->TM w' mb ts)/\(k≠3->zy0 w' gv S.go)/\∀i,i<32->k≠4+i->TO w' (ts i) (Lf i) i (S.T i):=
 ⟨λc=>h.row.of_block (hb g h.row.lt (by rw[h.lg];exact Ne.symm c)),λc=>h.pool.of_block (hb p h.pool.lt (by rw[h.lp];exact Ne.symm c)),λc=>h.map.same (hb mb h.map.lt (by rw[h.lm];exact Ne.symm c)),
  λc=>ColX.same h.gos (λb e=>hb b (World.ownsRow.lt h.gos b e).2 (by rw[h.lv b e];exact Ne.symm c)),λi hi c=>(h.tab i hi).same (λb e=>hb b ((h.tab i hi).inb b e) (by rw[h.lT i hi b e];exact Ne.symm c))⟩
theorem LM.cells(h:LM w g S p mb ls lt ts Lf gv lab)(hF:∀b,F b↔zc1 g p mb Lf gv b)(hg:w.grownBy w' (some g)){now':Int}(hr:w'.rowIs g 138 516 (lF p mb now' ls' lt' gv)):CM w w' g F { S with now:=now' } ls' lt':=by
 obtain⟨_,o1,o2,o3,o4⟩:=h.others (k:=0) (w':=w') (λb hb hl=>hg.block b hb (λe=>hl (by injection e with e;rw[e];exact h.lg)))
 exact⟨F,⟨p,mb,ts,Lf,gv,lab,⟨hr,o1 om,o2 om,λi hi=>o4 i hi om,o3 om,h.lg,h.lp,h.lm,h.lv,h.lT⟩,hF⟩,
  ⟨hg.os,hg.tape,hg.output,hg.size,λb hb hn=>hg.block b hb (λe=>hn ((hF b).2 (.inl (by injection e))))⟩,λ_ h=>Or.inl h⟩
theorem LM.pooled(h:LM w g S p mb ls lt ts Lf gv lab)(hF:∀b,F b↔zc1 g p mb Lf gv b)(hg:w.grownBy w' (some p)){G':Nat->Int}{L':Nat->Bool}(hr:w'.rowIs p 189 513 (zbC S.room G' L')):CM w w' g F { S with G:=G',L:=L' } ls lt:=by
 obtain⟨o0,_,o2,o3,o4⟩:=h.others (k:=1) (w':=w') (λb hb hl=>hg.block b hb (λe=>hl (by injection e with e;rw[e];exact h.lp)))
 exact⟨F,⟨p,mb,ts,Lf,gv,lab,⟨o0 om,hr,o2 om,λi hi=>o4 i hi om,o3 om,h.lg,h.lp,h.lm,h.lv,h.lT⟩,hF⟩,
  ⟨hg.os,hg.tape,hg.output,hg.size,λb hb hn=>hg.block b hb (λe=>hn ((hF b).2 (.inr (.inl (by injection e)))))⟩,λ_ h=>Or.inl h⟩
def zxr(lab:Nat->Nat)(n k b:Nat):Nat:=if b<n then lab b else k
theorem zbR{lab:Nat->Nat}{b:Nat}(h:b<n):zxr lab n k b=lab b:=if_pos h
theorem LM.tabled(h:LM w g S p mb ls lt ts Lf gv lab)(hF:∀b,F b↔zc1 g p mb Lf gv b){i a:Nat}(hi:i<32)(kY:ts i=some a){L':Nat->Prop}{R:TR}(ht:TBl w' a L' i R)(hf:Fr w w' (Lf i))(hn:∀b,L' b->Lf i b∨w.heap.size<=b):CM w w' g F { S with T:=upf S.T i R } ls lt:=by
 obtain⟨o0,o1,o2,o3,o4⟩:=h.others (k:=4+i) (w':=w') (λb hb hl=>hf.2.2.2.2 b hb (λc=>hl (h.lT i hi b c)));have hL:∀j b,upf Lf i L' j b->(j=i/\L' b)∨(j≠i/\Lf j b):=λj b c=>by
  unfold upf at c
  by_cases d:j=i
  ·rw[if_pos d]at c;exact .inl ⟨d,c⟩
  ·rw[if_neg d]at c;exact .inr ⟨d,c⟩
 refine⟨zc1 g p mb (upf Lf i L') gv,⟨p,mb,ts,upf Lf i L',gv,zxr lab w.heap.size (4+i),⟨o0 om,o1 om,o2 om,λj hj=> ?_,o3 om,?_,?_,?_,λb e=> ?_,λj hj b c=> ?_⟩,λ_=>Iff.rfl⟩,⟨hf.1,hf.2.1,hf.2.2.1,hf.2.2.2.1,λb hb KL=>hf.2.2.2.2 b hb (λc=>KL ((hF b).2 (.inr (.inr (.inr (.inr ⟨i,hi,c⟩))))))⟩,?_⟩
 ·show TO w' (ts j) (upf Lf i L' j) j (upf S.T i R j);unfold upf
  by_cases d:j=i
  ·rw[if_pos d,if_pos d,d,kY];exact ht
  ·rw[if_neg d,if_neg d];exact o4 j hj om
 ·rw[zbR h.row.lt,h.lg]
 ·rw[zbR h.pool.lt,h.lp]
 ·rw[zbR h.map.lt,h.lm]
 ·rw[zbR (World.ownsRow.lt h.gos b e).2,h.lv b e]
 ·rcases hL j b c with ⟨rfl,c'⟩ | ⟨d,c'⟩
  ·unfold zxr
   by_cases e:b<w.heap.size
   ·rw[if_pos e];rcases hn b c' with q | q
    ·exact h.lT j hj b q
    ·omega
   ·rw[if_neg e]
  ·rw[zbR ((h.tab j hj).inb b c')];exact h.lT j hj b c'
 ·rintro b (e | e | e | e | ⟨j,hj,c⟩)
  ·exact .inl ((hF b).2 (.inl e))
  ·exact .inl ((hF b).2 (.inr (.inl e)))
  ·exact .inl ((hF b).2 (.inr (.inr (.inl e))))
  ·exact .inl ((hF b).2 (.inr (.inr (.inr (.inl e)))))
  ·rcases hL j b c with ⟨rfl,c'⟩ | ⟨d,c'⟩
   ·rcases hn b c' with q | q
    ·exact .inl ((hF b).2 (.inr (.inr (.inr (.inr ⟨j,hj,q⟩)))))
    ·exact .inr q
   ·exact .inl ((hF b).2 (.inr (.inr (.inr (.inr ⟨j,hj,c'⟩)))))
theorem LM.need(h:LM w g S p mb ls lt ts Lf gv lab)(hF:∀b,F b↔zc1 g p mb Lf gv b){i a:Nat}(hi:i<32)(kY:ts i=none){L':Nat->Prop}(hb:Bw w w1)(ht:TBl w1 a L' i [])(hn:∀b,L' b->w.heap.size<=b)(hm:TM w2 mb (upf ts i (some a)))(hg:w1.grownBy w2 (some mb)):
  LM w2 g S p mb ls lt (upf ts i (some a)) (upf Lf i L') gv (zxr lab w.heap.size (4+i))/\Fr w w2 F/\∀b,zc1 g p mb (upf Lf i L') gv b->F b∨w.heap.size<=b:=by
 have hT:S.T i=[]:=by have:=h.tab i hi;rw[kY]at this;exact this.1
 have h1:=h.keep hb;obtain⟨o0,o1,_,o3,o4⟩:=h1.others (k:=2) (w':=w2) (λb KD hl=>hg.block b KD (λe=>hl (by injection e with e;rw[e];exact h1.lm)));have NI:=h.map.lt;have Zx:TBl w2 a L' i []:=tc_holds.1 w1 w2 a L' i [] ht (λb c=>hg.block b (tc_holds.2.1 w1 a L' i [] ht b c) (λe=>by injection e with e;have:=hn b c;omega));have hL:∀j b,upf Lf i L' j b->(j=i/\L' b)∨(j≠i/\Lf j b):=λj b c=>by
  unfold upf at c
  by_cases d:j=i
  ·rw[if_pos d]at c;exact .inl ⟨d,c⟩
  ·rw[if_neg d]at c;exact .inr ⟨d,c⟩
 refine⟨⟨o0 om,o1 om,hm,λj hj=> ?_,o3 om,?_,?_,?_,λb e=> ?_,λj hj b c=> ?_⟩,?_,?_⟩
 ·unfold upf
  by_cases d:j=i
  ·rw[if_pos d,if_pos d,d,hT];exact Zx
  ·rw[if_neg d,if_neg d];exact o4 j hj om
 ·rw[zbR h.row.lt,h.lg]
 ·rw[zbR h.pool.lt,h.lp]
 ·rw[zbR h.map.lt,h.lm]
 ·rw[zbR (World.ownsRow.lt h.gos b e).2,h.lv b e]
 ·rcases hL j b c with ⟨rfl,c'⟩ | ⟨d,c'⟩
  ·unfold zxr;rw[if_neg (by have:=hn b c';omega)]
  ·rw[zbR ((h.tab j hj).inb b c')];exact h.lT j hj b c'
 ·refine⟨hg.os.trans hb.os,hg.tape.trans hb.tape,hg.output.trans hb.output,Nat.le_trans hb.size hg.size,λb KD KL=> ?_⟩;refine (hg.block b (Nat.lt_of_lt_of_le KD hb.size) (λe=>KL ?_)).trans (hb.block b KD);injection e with e;exact (hF b).2 (.inr (.inr (.inl e)))
 ·rintro b (e | e | e | e | ⟨j,hj,c⟩)
  ·exact .inl ((hF b).2 (.inl e))
  ·exact .inl ((hF b).2 (.inr (.inl e)))
  ·exact .inl ((hF b).2 (.inr (.inr (.inl e))))
  ·exact .inl ((hF b).2 (.inr (.inr (.inr (.inl e)))))
  ·rcases hL j b c with ⟨rfl,c'⟩ | ⟨d,c'⟩
   ·exact .inr (hn b c')
   ·exact .inl ((hF b).2 (.inr (.inr (.inr (.inr ⟨j,hj,c'⟩)))))
theorem LM.went(h:LM w g S p mb ls lt ts Lf gv lab)(hF:∀b,F b↔zc1 g p mb Lf gv b)(hf:Fr w w' (λb=>b=g∨gv.ownBlock=some b)){gv':Value}{go':List (Int × Int)}(hr:w'.rowIs g 138 516 (lF p mb S.now ls lt gv'))(hc:zy0 w' gv' go')(hn:∀b,gv'.ownBlock=some b->gv.ownBlock=some b∨w.heap.size<=b):CM w w' g F { S with go:=go' } ls lt:=by
 have cj:=h.row.lt;have ho:∀b,b<w.heap.size->b≠g->gv.ownBlock≠some b->w'.heap[b]? =w.heap[b]? :=λb hb h1 h2=>hf.2.2.2.2 b hb (λc=>c.elim h1 h2);have EX:p≠g:=λe=>by have h1:=h.lp;rw[e,h.lg]at h1;omega
 have EY:mb≠g:=λe=>by have h1:=h.lm;rw[e,h.lg]at h1;omega
 have hvp:gv.ownBlock≠some p:=λe=>by have h1:=h.lv p e;rw[h.lp]at h1;omega
 have EZ:gv.ownBlock≠some mb:=λe=>by have h1:=h.lv mb e;rw[h.lm]at h1;omega
 refine⟨zc1 g p mb Lf gv',⟨p,mb,ts,Lf,gv',zxr lab w.heap.size 3,⟨hr,h.pool.of_block (ho p h.pool.lt EX hvp),h.map.same (ho mb h.map.lt EY EZ),λi hi=>(h.tab i hi).same (λb c=>ho b ((h.tab i hi).inb b c) (λe=> ?_) (λe=> ?_)),hc,?_,?_,?_,λb e=> ?_,λi hi b c=> ?_⟩,λ_=>Iff.rfl⟩,
  ⟨hf.1,hf.2.1,hf.2.2.1,hf.2.2.2.1,λb hb KL=>hf.2.2.2.2 b hb (λc=>KL ((hF b).2 (c.elim (λe=>Or.inl e) (λe=>Or.inr (.inr (.inr (.inl e)))))))⟩,?_⟩
 ·have h1:=h.lT i hi b c;rw[e,h.lg]at h1;omega
 ·have h1:=h.lT i hi b c;rw[h.lv b e]at h1;omega
 ·rw[zbR cj,h.lg]
 ·rw[zbR h.pool.lt,h.lp]
 ·rw[zbR h.map.lt,h.lm]
 ·rcases hn b e with q | q
  ·rw[zbR (World.ownsRow.lt h.gos b q).2,h.lv b q]
  ·unfold zxr;rw[if_neg om]
 ·rw[zbR ((h.tab i hi).inb b c)];exact h.lT i hi b c
 ·rintro b (e | e | e | e | e)
  ·exact .inl ((hF b).2 (.inl e))
  ·exact .inl ((hF b).2 (.inr (.inl e)))
  ·exact .inl ((hF b).2 (.inr (.inr (.inl e))))
  ·rcases hn b e with q | q
   ·exact .inl ((hF b).2 (.inr (.inr (.inr (.inl q)))))
   ·exact .inr q
  ·exact .inl ((hF b).2 (.inr (.inr (.inr (.inr e)))))
end
section
variable {w:World} {g p mb:Nat} {S:St} {ls lt:Nat->Int} {ts:Nat->Option Nat} {Lf:Nat->Nat->Prop} {gv:Value} {lab:Nat->Nat} {F:Nat->Prop}
theorem LM.c0(h:LM w g S p mb ls lt ts Lf gv lab):w.cell? ⟨g,0,none⟩=some (.pointer (some ⟨p,0,none⟩)):=h.row.cell om
theorem LM.c1(h:LM w g S p mb ls lt ts Lf gv lab):w.cell? ⟨g,1,none⟩=some (.map (some mb)):=h.row.cell om
theorem LM.c2(h:LM w g S p mb ls lt ts Lf gv lab):w.cell? ⟨g,2,none⟩=some (.int .i64 S.now):=h.row.cell om
theorem LM.cS(h:LM w g S p mb ls lt ts Lf gv lab){k:Nat}(hk:k<256):w.cell? ⟨g,3+k*2,none⟩=some (.int .i64 (ls k)):=by rw[h.row.cell om,zy1 hk]
theorem LM.cT(h:LM w g S p mb ls lt ts Lf gv lab){k:Nat}(hk:k<256):w.cell? ⟨g,3+k*2+1,none⟩=some (.int .i64 (lt k)):=by rw[h.row.cell om,zxm hk]
theorem LM.c515(h:LM w g S p mb ls lt ts Lf gv lab):w.cell? ⟨g,515,none⟩=some gv:=h.row.cell om
theorem CM.join{w1 w2:World}{S:St}{ls lt:Nat->Int}{F F':Nat->Prop}(kE:Fr w w1 F)(hn:∀b,F' b->F b∨w.heap.size<=b)(k:CM w1 w2 g F' S ls lt):CM w w2 g F S ls lt:=by
 obtain⟨Sm,k1,k2,k3⟩:=k;refine⟨Sm,k1,⟨k2.1.trans kE.1,k2.2.1.trans kE.2.1,k2.2.2.1.trans kE.2.2.1,Nat.le_trans kE.2.2.2.1 k2.2.2.2.1,λb hb KL=> ?_⟩,λb hb=> ?_⟩
 ·refine (k2.2.2.2.2 b (Nat.lt_of_lt_of_le hb kE.2.2.2.1) (λc=> ?_)).trans (kE.2.2.2.2 b hb KL);rcases hn b c with d | d
  ·exact KL d
  ·omega
 ·rcases k3 b hb with d | d
  ·exact hn b d
  ·exact .inr (Nat.le_trans kE.2.2.2.1 d)
theorem TM.drewN(h:TM w mb ts)(n:Nat):TM (w.drewN n) mb ts:=h
theorem znI(ho:zel id=true):∃k:Nat,k<256/\(id % 256).toNat=k/\∀w',Calls prog 108 #[.int .i64 id] w' λe dN=>e= .returned (.int .i64 (k:Int))/\w'=dN:=by
 obtain⟨i,q,hi,hq,hx,ht,hd⟩:=zeF ho;exact⟨i,hi,om,λw'=>(zrM id w').mono λ_ _ ⟨he,hw⟩=>⟨by rw[he,if_pos ho,show id % 256=(i:Int) by omega],hw⟩⟩
theorem zhj(h:LM w g S p mb ls lt ts Lf gv lab)(id:Int)(ho:zel id=true){i a:Nat}(hi:i<32)(hl:ls (id % 256).toNat=(i:Int))(kY:ts i=some a)(hR:(S.T i).length<=1000):
  Calls prog 185 #[.pointer (some ⟨g,0,none⟩),.int .i64 id] w λe w'=>e= .returned (.tuple #[.pointer (some ⟨a,0,none⟩),.int .i64 (zaB (S.T i) id)])/\Bw w w':=by
 obtain⟨k,hk,xA,xJ⟩:=znI ho;have CU:=kA xJ;have c1:=h.c1;have cs:=h.cS hk;rw[<-xA,hl]at cs;have hm:=h.map.get hi;rw[kY]at hm;have Ct:∀n,(Instr.lookup 132 (.map (some mb)) (.int .i64 i) false).run prog (w.drewN n)= .ok (.pointer (some ⟨a,0,none⟩)) (w.drewN n):=λn=>by
  have:=(h.map.drewN n).get hi;rw[kY]at this;exact this
 have ht:=h.tab i hi;rw[kY]at ht;replace ht:TBl w a (Lf i) i (S.T i):=ht
 have yk:Hid (∀n,Calls prog 241 #[.pointer (some ⟨a,0,none⟩),.int .i64 id] (w.drewN n) λe w'=>e= .returned (.int .i64 (zaB (S.T i) id))/\(w.drewN n)=w'):=kA (λn=>by
  have bY:TBl (w.drewN n) a (Lf i) i (S.T i):=TBl.keep ht (Go.below_drewN (Below.refl _ _) n);obtain⟨v,h1,_⟩:=bY
  exact ziG h1 hR id)
 have hg:=h.row.lt;have k0:(0:Int)<=(k:Int):=om;have k1:(k:Int)<256:=om;rw[xA]at cs;clear h ht kY hl hR ho xJ xA hm;go_enter func185,ntmps185;go_wp2;go_quiet (first | (go_at_call 108;refine Calls.quiet_of_same ((CU _).mono λ_ _ q=>⟨q.1,q.2.symm⟩)))
 go_wp2_with fail;refine (yk _).mono ?_;rintro e w2 ⟨rfl,rfl⟩;go_wp2;go_ret2;exact⟨rfl,Go.below_drewN (Below.refl _ _) nq⟩
theorem zhk(h:LM w g S p mb ls lt ts Lf gv lab)(hF:∀b,F b↔zc1 g p mb Lf gv b)(id:Int)(ho:zel id=true){i a:Nat}(hi:i<32)(hl:ls (id % 256).toNat=(i:Int))(kY:ts i=some a)(hR:(S.T i).length<=1000):
  Calls prog 116 #[.pointer (some ⟨g,0,none⟩),.int .i64 id] w λe w'=>e= .returned (.tuple #[])/\CM w w' g F { S with T:=upf S.T i (zd9 (S.T i) (zaB (S.T i) id)) } ls lt:=by
 have Kn:=kA (zhj h id ho hi hl kY hR)
 have HC:Hid (∀u,Bw w u->Calls prog 186 #[.pointer (some ⟨a,0,none⟩),.int .i64 (zaB (S.T i) id)] u λe w'=>∃x y:Int,e= .returned (.tuple #[.int .i64 x,.int .i64 y])/\CM w w' g F { S with T:=upf S.T i (zd9 (S.T i) (zaB (S.T i) id)) } ls lt):=kA (λu k=>by
  have h1:=h.keep k;have ht:=h1.tab i hi;rw[kY]at ht;refine (znG u a (Lf i) i (S.T i) (zaB (S.T i) id) hR ht).mono ?_;rintro e w' ⟨L',rfl,t1,t2,t3⟩
  exact⟨_,_,rfl,(h1.tabled hF hi kY t1 t2 t3).of k⟩)
 obtain⟨q,hq⟩:∃q,q=zaB (S.T i) id:=⟨_,rfl⟩;obtain⟨S',C7⟩:∃S',S'={ S with T:=upf S.T i (zd9 (S.T i) (zaB (S.T i) id)) }:=⟨_,rfl⟩;rw[<-C7]at HC;rw[<-C7];rw[<-hq]at Kn HC;clear h hF hq C7 hl kY hR ho;go_enter func116,ntmps116;go_wp2_with fail;refine Kn.mono ?_;rintro e w1 ⟨rfl,b1⟩;have B1:=kA b1;clear b1;go_wp2_with fail;refine (HC _ B1).mono ?_;rintro e w2 ⟨x,y,rfl,hc⟩;have Kp:=kA hc;clear hc;go_wp2;go_end0;exact⟨rfl,Kp⟩
theorem zrQ(h:LM w g S p mb ls lt ts Lf gv lab){i a:Nat}(hi:i<32)(kY:ts i=some a):
  Calls prog 179 #[.pointer (some ⟨g,0,none⟩),.int .i64 i] w λe w'=>e= .returned (.pointer (some ⟨a,0,none⟩))/\w=w':=by
 have c1:=h.c1;have hm:=h.map.get hi;rw[kY]at hm;replace hm:(Instr.lookup 132 (.map (some mb)) (.int .i64 i) false).run prog w= .ok (.pointer (some ⟨a,0,none⟩)) w:=hm;have hg:=h.row.lt;clear h kY;go_enter func179,ntmps179;go_wp2;go_ret;exact⟨rfl,rfl⟩
theorem zrR(h:LM w g S p mb ls lt ts Lf gv lab)(hF:∀b,F b↔zc1 g p mb Lf gv b){i:Nat}(hi:i<32)(kY:ts i=none):
  Calls prog 179 #[.pointer (some ⟨g,0,none⟩),.int .i64 i] w λe w'=>∃a L' de,e= .returned (.pointer (some ⟨a,0,none⟩))/\LM w' g S p mb ls lt (upf ts i (some a)) (upf Lf i L') gv de/\Fr w w' F/\∀b,zc1 g p mb (upf Lf i L') gv b->F b∨w.heap.size<=b:=by
 have c1:=h.c1;have hm:=h.map.get hi;rw[kY]at hm;replace hm:(Instr.lookup 132 (.map (some mb)) (.int .i64 i) false).run prog w= .ok (.pointer none) w:=hm;have hg:=h.row.lt
 have HN:Hid (∀u,Bw w u->Calls prog 239 #[.int .i64 i] u λe w1=>∃a,e= .returned (.tuple #[.pointer (some ⟨a,0,none⟩),.int .i64 0])/\∃w2,(Instr.mapUpdate 132 (.map (some mb)) (.int .i64 i) (.pointer (some ⟨a,0,none⟩))).run prog w1= .ok () w2/\(∃L' de,LM w2 g S p mb ls lt (upf ts i (some a)) (upf Lf i L') gv de/\Fr w w2 F/\∀b,zc1 g p mb (upf Lf i L') gv b->F b∨w.heap.size<=b)/\w1.cell? ⟨g,1,none⟩=some (.map (some mb))/\w2.cell? ⟨g,1,none⟩=some (.map (some mb))/\g<w2.heap.size/\(Instr.lookup 132 (.map (some mb)) (.int .i64 i) false).run prog w2= .ok (.pointer (some ⟨a,0,none⟩)) w2):=kA (λu k=>by
  refine (zqN u i om).mono ?_;rintro e w1 ⟨a,L',rfl,t1,t2,t3⟩;have hb:Bw w w1:=zad k t3;obtain⟨w2,hr,m1,m2⟩:=((h.keep hb).map).put hi a;have hX:=h.need hF hi kY hb t1 (λb c=>Nat.le_trans k.size (t2 b c)) m1 m2;have hq:=m1.get hi;rw[show upf ts i (some a) i=some a by unfold upf;rw[if_pos rfl]]at hq
  exact⟨a,rfl,w2,hr,⟨L',_,hX⟩,(h.keep hb).c1,hX.1.c1,hX.1.row.lt,hq⟩)
 clear h hF kY;go_enter func179,ntmps179;go_wp2
 go_region_held3 (λw'=>w'.cell? ⟨g,1,none⟩=some (.map (some mb))) (first | exact c1 | go_keep)
  (first | (go_at_call 239;refine (HN _ (za5 (Below.refl _ _))).mono ?_;rintro e w1 ⟨a,rfl,w2,Hi,DG,c2,c3,z3,NE⟩;have HR:=kA DG;clear DG))
 go_wp2;go_ret;obtain⟨L',de,hx⟩:=HR;exact⟨a,L',de,rfl,hx⟩
theorem zrS(h:LM w g S p mb ls lt ts Lf gv lab)(hF:∀b,F b↔zc1 g p mb Lf gv b){i:Nat}(hi:i<32):
  Calls prog 179 #[.pointer (some ⟨g,0,none⟩),.int .i64 i] w λe w'=>∃a jy ZH de,e= .returned (.pointer (some ⟨a,0,none⟩))/\jy i=some a/\LM w' g S p mb ls lt jy ZH gv de/\Fr w w' F/\∀b,zc1 g p mb ZH gv b->F b∨w.heap.size<=b:=by
 cases kY:ts i with
 | some a=>exact (zrQ h hi kY).mono λ_ _ ⟨he,hw⟩=>⟨a,ts,Lf,lab,he,kY,hw ▸ h,hw ▸ zxq _ _,λb c=>Or.inl ((hF b).2 c)⟩
 | none=>exact (zrR h hF hi kY).mono λ_ _ ⟨a,L',de,he,hx,hf,hn⟩=>⟨a,_,_,de,he,by unfold upf;rw[if_pos rfl],hx,hf,hn⟩
end
end Go.Proofs.YtlibdcmcbinfnaaGreat
