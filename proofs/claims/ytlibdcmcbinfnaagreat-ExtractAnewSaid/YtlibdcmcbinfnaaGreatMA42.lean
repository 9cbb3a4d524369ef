/- Lemmas. -/
import Derived.Test.YtlibdcmcbinfnaaGreatMA41
set_option maxHeartbeats 100000000
set_option maxRecDepth 1000000
namespace Go.Proofs.YtlibdcmcbinfnaaGreat
open _root_.Go.Proofs.Tryz List Nat
open Go.RowKit
def zn0(nd:BD)(ho:Bool)(ou:Option RD)(x:Int):Option RD × Int:=if ho=false then (some (⟨x,nd.1,!nd.2⟩,1),0) else match ou with
 | none=>(none,0)
 | some u=>if 16<=u.2 then (none,7) else if zaG u.1.wo nd.1=0 then (some (⟨x,zbB u.1.wo nd.1,u.1.sh && !nd.2⟩,u.2+1),0) else (none,zaG u.1.wo nd.1)
def zxS(S:Int->Option RD)(x:Int)(o:Option RD):Int->Option RD:=match o with
 | some v=>upm S x (some v)
 | none=>S
variable{ops:Array Oper}{op:Oper}{a:Go.Act}{L:List Nd}{x y e:Int}{T U:FT}{K P:List Int}
theorem zpe{rest:List Oper}{w:World}{Q:Exit->Go.Act->World->Prop}(Kg:op.guard=none)(t e:TypeId)(x y:Operand)(ho:op.op= .buildSlice t 2 #[(0,x),(1,y)])(X Y Z:List Value)(hx:a.eval x= .agg X.toArray)(hy:a.eval y= .agg Y.toArray)
  (Hf:∀W,(Instr.buildSlice t 2 #[(0,.agg X.toArray),(1,.agg Y.toArray)]).run prog W= .ok (.slice (some ⟨W.heap.size,0,none⟩) 2 2) (W.alloc (.cells Z.toArray e)))
  (h:wpList prog ops Q rest (a.put op.dst (.slice (some ⟨w.heap.size,0,none⟩) 2 2)) (w.alloc (.cells Z.toArray e))):wpList prog ops Q (op::rest) a w:=
 wpList_plain Kg λK hK=>by
  have h2:=hK _ _ h;unfold Oper.wp execOp;simp only[ho];simp[hx,hy,Hf];exact h2
theorem zbx{S:World->Prop}(hw:Region.wanted op (yielded ops a.tmps)=true)(t:TypeId)(x y:Operand)(ho:op.op= .build t #[(0,x),(1,y)])(vx vy vr:Value)(hx:a.eval x=vx)(hy:a.eval y=vy)
  (Hf:∀W,(Instr.build t #[(0,vx),(1,vy)]).run prog W= .ok vr W):YieldsIf prog ops S op vr a:=
 .inl ⟨hw,λw _=>by
  unfold execOp;simp only[ho]
  simp[hx,hy,Hf]⟩
def wS(p:Wp)(S':Int->Option RD):Wp:={ p with S:=S' }
theorem zxT(A B:Nat->Int)(W:World):(Instr.buildSlice 326 2 #[(0,.agg (lM A).toArray),(1,.agg (lM B).toArray)]).run prog W= .ok (.slice (some ⟨W.heap.size,0,none⟩) 2 2) (W.alloc (.cells (lM A++lM B).toArray 46)):=oM
theorem zkW(M:Nat->Int)(b:Bool)(W:World):(Instr.build 228 #[(0,.agg (lM M).toArray),(1,.bool b)]).run prog W= .ok (.agg (lM M++[Value.bool b]).toArray) W:=oM
theorem zhv(M:Nat->Int)(b:Bool)(d:Int)(W:World):(Instr.build 299 #[(0,.agg (lM M++[Value.bool b]).toArray),(1,.int .i64 d)]).run prog W= .ok (.agg (lM M++[Value.bool b,Value.int .i64 d]).toArray) W:=oM
theorem zsq{A B:Nat->Int}(ha:okM A=true)(hb:okM B=true):zdF [A,B]=(if zaG A B=0 then zbB A B else zdK,zaG A B):=by
 have h:zbG [A,B]=true:=by unfold zbG;simp[ha,hb]
 rw[zhR h];unfold zcz
 by_cases c:zaG A B=0
 ·rw[if_pos c,if_pos c,c];rfl
 ·rw[if_neg c,if_neg c]
theorem zuV(A B:Nat->Int)(ha:okM A=true)(hb:okM B=true)(w:World)(g:Nat)(k:Blk w g 46 (lM A++lM B).toArray):
  Calls prog 254 #[.slice (some ⟨g,0,none⟩) 2 2] w λe w'=>e= .returned (.tuple #[.agg (lM (if zaG A B=0 then zbB A B else zdK)).toArray,.int .i64 (zaG A B)])/\Bw w w':=by
 have row:=zzN (A:=A) (B:=B) k;refine (zsX _ 2 2 [A,B] w row om om).mono ?_;rintro e w' ⟨rfl,Kd⟩;rw[zsq ha hb];exact⟨rfl,Kd⟩
section
variable {w:World} {p:Wp} {x:Int}
theorem zms(h:LW w p)(hx:Rg x)(nd:BD)(hN:p.N x=some nd)(Hp:okM nd.1=true)(hu:Rg (zcg p.T x))(hS:∀u,p.S (zcg p.T x)=some u->okM u.1.wo=true/\u.2<=1000)(K:List Int)(hK:∀y,(p.S y).isSome=true->y∈K)(C9:K.length<=90000):
  Calls prog 200 #[.pointer (some ⟨p.g,0,none⟩),.int .i64 x] w λe w'=>e= .returned (.int .i64 (zn0 nd (p.N (zcg p.T x)).isSome (p.S (zcg p.T x)) x).2)/\ChL w w' p (wS p (zxS p.S x (zn0 nd (p.N (zcg p.T x)).isSome (p.S (zcg p.T x)) x).1)):=by
 have Hk:Hid (∀u,Bw w u->ChL w u p p):=kA (λu q=>ChL.still h q)
 have qG:Hid (∀u,Bw w u->u.cell? ⟨p.g,1,none⟩=some (.map (some p.gn))/\(Instr.lookup 197 (.map (some p.gn)) (.int .i64 x) false).run prog u= .ok (.agg (cBd nd).toArray) u):=kA (λu q=>⟨(h.keep q).cells.2.1,by
  have:=(h.keep q).nod.get hx;rw[hN]at this
  exact this⟩)
 have cY:Hid (∀u,Bw w u->Calls prog 191 #[.pointer (some ⟨p.g,0,none⟩),.int .i64 x] u λe w'=>e= .returned (.int .i64 (zcg p.T x))/\u=w'):=kA (λu q=>zfW (h.keep q) hx);have vp:Hid (∀u,Bw w u->Calls prog 119 #[.pointer (some ⟨p.g,0,none⟩),.int .i64 (zcg p.T x)] u λe w'=>e= .returned (.bool (p.N (zcg p.T x)).isSome)/\Bw u w'):=kA (λu q=>zkV (h.keep q) hu);have Cu:Hid (∀u,Bw w u->u.cell? ⟨p.g,2,none⟩=some (.map (some p.gs))/\p.g<u.heap.size/\(Instr.lookup 198 (.map (some p.gs)) (.int .i64 (zcg p.T x)) true).run prog u= .ok (.tuple #[.agg (cSd ((p.S (zcg p.T x)).getD zRf)).toArray,.bool (p.S (zcg p.T x)).isSome]) u):=kA (λu q=>⟨(h.keep q).cells.2.2.1,(h.keep q).cells.2.2.2.2.2,(h.keep q).sts.look hu⟩)
 have kQ:Hid (∀u (v:RD),Bw w u->∃w2,(Instr.mapUpdate 198 (.map (some p.gs)) (.int .i64 x) (.agg (cSd v).toArray)).run prog u= .ok () w2/\ChL w w2 p (wS p (upm p.S x (some v)))/\(∀b,w.heap.size<=b->b<u.heap.size->w2.heap[b]? =u.heap[b]?)/\w2.cell? ⟨p.g,2,none⟩=some (.map (some p.gs))):=kA (λu v q=>by
  obtain⟨w2,r2,m2,g2⟩:=(h.keep q).sts.put hx v (x::K) (λy hy=>by
   unfold upm at hy
   by_cases c:y=x
   ·rw[c];exact mem_cons_self
   ·rw[if_neg c]at hy
    exact mem_cons_of_mem _ (hK y hy)) (by rw[length_cons];omega)
  exact⟨w2,r2,(ChL.still h q).join ((h.keep q).setS m2 g2),λb hb hl=>g2.block b hl (λe=>by have:=h.sts.lt;injection e with e;omega),((h.keep q).setS m2 g2).1.cells.2.2.1⟩)
 have qH:=kA (zvO nd);have CF:Hid (∀W gg,Blk W gg 215 (cBd nd).toArray->W.rangeAt gg 0 (lM nd.1)/\W.cell? ⟨gg,12,none⟩=some (.bool nd.2)):=kA (λW gg k=>⟨zaH k 0 12,k.cell 12⟩);obtain⟨XB,zY⟩:∃XB,XB=cBd nd:=⟨_,rfl⟩;obtain⟨MB,td⟩:∃MB,MB=lM nd.1:=⟨_,rfl⟩;obtain⟨up,Xu⟩:∃up,up=zcg p.T x:=⟨_,rfl⟩;obtain⟨ho,nM⟩:∃ho,ho=(p.N up).isSome:=⟨_,rfl⟩;obtain⟨ou,V7⟩:∃ou,ou=p.S up:=⟨_,rfl⟩;have te:=kA (zj4 nd.1);rw[<-zY]at qG qH CF;rw[<-td]at CF te;rw[<-Xu]at cY vp Cu hS ⊢;rw[<-nM]at vp ⊢;rw[<-V7]at Cu hS ⊢;have Dl:=kA hS;have dN:=kA Hp;have qI:=kA td;obtain⟨g,hge⟩:∃g,g=p.g:=⟨_,rfl⟩;obtain⟨gn,Hd⟩:∃gn,gn=p.gn:=⟨_,rfl⟩;obtain⟨gs,Xw⟩:∃gs,gs=p.gs:=⟨_,rfl⟩;rw[<-hge]at qG cY vp Cu kQ ⊢;rw[<-Hd]at qG;rw[<-Xw]at Cu kQ;have CA:=kA (qG _ (zav w));have Hl:Bw w (w.drew.alloc (.cells (cBd zB).toArray 215)):=zad (zav w) (zaa _ _);have CB:=kA (qG _ Hl);have kt:Hid ((w.drew.alloc (.cells (cBd zB).toArray 215)).there w.heap.size 0 XB.toArray.size):=kA (zae (Blk.new w.drew _ _) (by rw[size_toArray,qH.len];exact Nat.le_refl 13));have kj:Bw w ((w.drew.alloc (.cells (cBd zB).toArray 215)).setCells w.heap.size 0 XB):=zab XB Hl (Nat.le_refl _);have CC:=kA (qG _ kj);have tf:Hid (Blk ((w.drew.alloc (.cells (cBd zB).toArray 215)).setCells w.heap.size 0 XB) w.heap.size 215 XB.toArray/\Bw w ((w.drew.alloc (.cells (cBd zB).toArray 215)).setCells w.heap.size 0 XB)/\w.heap.size<=w.heap.size):=kA ⟨zal (Blk.new w.drew _ _) (by rw[qH.len];rfl),kj,Nat.le_refl _⟩;have hg:=(Cu _ (Below.refl _ _)).2.1;clear h hN Hp hu hS hK C9 zY td Xu nM V7 hge Hd Xw hx kj;go_enter func200,ntmps200;go_upto_region 1 with fail;refine zwV (λgx f=>{ tmps:= #[.pointer (some ⟨g,0,none⟩),.int .i64 x,undef,undef,.int .i64 0,.pointer (some ⟨gx,0,none⟩),.int .i64 up,undef,undef,undef,undef,f 11,f 12,f 13,f 14,f 15,f 16,f 17,f 18,f 19,undef,undef,undef,undef,undef,undef,undef,undef,undef,undef,undef,undef,undef,undef,undef,undef,undef,undef,undef,undef,undef,undef,undef,undef,undef,undef,undef,undef,undef,undef,undef,undef,undef,undef,undef,undef,undef,undef,undef,undef,undef,undef,undef,undef,undef,undef,undef,undef,undef,undef,undef,undef,undef,undef,undef,undef,undef,undef,undef,undef,undef,undef],defers:=[] }) (λgx W=>Blk W gx 215 XB.toArray/\Bw w W/\w.heap.size<=gx) ?_ ?_
 ·refine wp_region_held_drew (S:=λw'=>w'.cell? ⟨g,1,none⟩=some (.map (some gn))/\(Instr.lookup 197 (.map (some gn)) (.int .i64 x) false).run prog w'= .ok (.agg XB.toArray) w') oM (CA.out) (λhHeld=> ?_);refine wpAnyH_take (i:=0) (v:= ?_) rfl oM oM oM (λ_ _ _ h=>(by cases h.1)) (.inl ⟨by rfl,?_⟩) hHeld ?_
  rotate_left
  ·intro w Dc;obtain⟨s0,s1⟩:=Dc;go_simp
   with_reducible rfl
  simp only[Act.put,getElem_toArray,getElem_cons_zero,setIfInBounds_toArray,set_cons_zero,set_cons_succ];refine wpAnyH_take (i:=1) (v:= ?_) rfl oM oM oM (λ_ _ _ h=>(by cases h.1)) (.inl ⟨by rfl,?_⟩) hHeld ?_
  rotate_left
  ·intro w Dc;obtain⟨s0,s1⟩:=Dc;go_simp
   with_reducible rfl
  simp only[Act.put,getElem_toArray,getElem_cons_zero,getElem_cons_succ,setIfInBounds_toArray,set_cons_zero,set_cons_succ];refine wpAnyH_take (i:=2) (v:= ?_) rfl oM oM oM (λ_ _ _ h=>(by cases h.1)) (.inl ⟨by rfl,?_⟩) hHeld ?_
  rotate_left
  ·intro w Dc;obtain⟨s0,s1⟩:=Dc;go_simp
   with_reducible rfl
  simp only[Act.put,getElem_toArray,getElem_cons_zero,getElem_cons_succ,setIfInBounds_toArray,set_cons_zero,set_cons_succ];refine wpAnyH_take (i:=3) (v:= ?_) rfl oM oM oM (λ_ _ _ h=>(by cases h.1)) (.inl ⟨by rfl,?_⟩) hHeld ?_
  rotate_left
  ·intro w Dc;obtain⟨s0,s1⟩:=Dc;go_simp
   with_reducible rfl
  simp only[Act.put,getElem_toArray,getElem_cons_zero,getElem_cons_succ,setIfInBounds_toArray,set_cons_zero,set_cons_succ];refine wpAnyH_take (i:=4) (v:= ?_) rfl oM oM oM (λ_ _ _ h=>(by cases h.1)) (.inl ⟨by rfl,?_⟩) hHeld ?_
  rotate_left
  ·intro w Dc;obtain⟨s0,s1⟩:=Dc;go_simp
   with_reducible rfl
  simp only[Act.put,getElem_toArray,getElem_cons_zero,getElem_cons_succ,setIfInBounds_toArray,set_cons_zero,set_cons_succ];refine wpAnyH_take (i:=5) (v:= ?_) rfl oM oM oM (λ_ _ _ h=>(by cases h.1)) (.inl ⟨by rfl,?_⟩) hHeld ?_
  rotate_left
  ·intro w Dc;obtain⟨s0,s1⟩:=Dc;go_simp
   with_reducible rfl
  simp only[Act.put,getElem_toArray,getElem_cons_zero,getElem_cons_succ,setIfInBounds_toArray,set_cons_zero,set_cons_succ];refine wpAnyH_take (i:=6) (v:= ?_) rfl oM oM oM (λ_ _ _ h=>(by cases h.1)) (.inl ⟨by rfl,?_⟩) hHeld ?_
  rotate_left
  ·intro w Dc;obtain⟨s0,s1⟩:=Dc;go_simp
   with_reducible rfl
  simp only[Act.put,getElem_toArray,getElem_cons_zero,getElem_cons_succ,setIfInBounds_toArray,set_cons_zero,set_cons_succ];refine wpAnyH_take (i:=7) (v:= ?_) rfl oM oM oM (λ_ _ _ h=>(by cases h.1)) (.inl ⟨by rfl,?_⟩) hHeld ?_
  rotate_left
  ·intro w Dc;obtain⟨s0,s1⟩:=Dc;go_simp
   with_reducible rfl
  simp only[Act.put,getElem_toArray,getElem_cons_zero,getElem_cons_succ,setIfInBounds_toArray,set_cons_zero,set_cons_succ];refine wpAnyH_ready (rs:=[8,9]) oM (by simp) ?_;refine AllReadyH.cons rfl (λK hK=> ?_) (AllReadyH.cons rfl (λK hK=> ?_) AllReadyH.nil)
  ·go_simp
   go_at_call 191
   refine (cY _ (zav w)).mono ?_;rintro e w9 ⟨rfl,rfl⟩;go_wp2_with fail;refine hK.out _ _ (CA.out) (λhHeld=> ?_);clear hK K;refine rd 9 (λK hK=> ?_);go_simp;refine hK.out _ _ (CB.out) (λhHeld=> ?_);clear hK K;refine rd 10 (λK hK=> ?_);rw[if_pos (by rfl)];refine wp_store_mid 215 (.tmp 5) (.tmp 16) rfl w.heap.size 0 XB.toArray rfl rfl kt qH.sizea qH.onea ?_;refine hK.out _ _ CC (λhHeld=> ?_);clear hK K;refine wpAnyH_take (i:=11) (v:= ?_) rfl oM oM oM (λ_ _ _ h=>(by cases h.1)) (.inl ⟨by rfl,?_⟩) hHeld ?_
   rotate_left
   ·intro w Dc;obtain⟨s0,s1⟩:=Dc;go_simp
    with_reducible rfl
   simp only[Act.put,getElem_toArray,getElem_cons_zero,getElem_cons_succ,setIfInBounds_toArray,set_cons_zero,set_cons_succ];refine wpAnyH_done oM ?_ _;exact zqX (fr:=(λgx f=>{ tmps:= #[.pointer (some ⟨g,0,none⟩),.int .i64 x,undef,undef,.int .i64 0,.pointer (some ⟨gx,0,none⟩),.int .i64 up,undef,undef,undef,undef,f 11,f 12,f 13,f 14,f 15,f 16,f 17,f 18,f 19,undef,undef,undef,undef,undef,undef,undef,undef,undef,undef,undef,undef,undef,undef,undef,undef,undef,undef,undef,undef,undef,undef,undef,undef,undef,undef,undef,undef,undef,undef,undef,undef,undef,undef,undef,undef,undef,undef,undef,undef,undef,undef,undef,undef,undef,undef,undef,undef,undef,undef,undef,undef,undef,undef,undef,undef,undef,undef,undef,undef,undef,undef],defers:=[] })) (Φ:=(λgx W=>Blk W gx 215 XB.toArray/\Bw w W/\w.heap.size<=gx)) w.heap.size tf rfl
  ·go_simp;refine hK.out _ _ (CB.out) (λhHeld=> ?_);clear hK K;refine rd 8 (λK hK=> ?_);go_simp
   go_at_call 191
   refine (cY _ (zad (zav w) (zaa _ _))).mono ?_;rintro e w9 ⟨rfl,rfl⟩;go_wp2_with fail;refine hK.out _ _ (CB.out) (λhHeld=> ?_);clear hK K;refine rd 10 (λK hK=> ?_);rw[if_pos (by rfl)];refine wp_store_mid 215 (.tmp 5) (.tmp 16) rfl w.heap.size 0 XB.toArray rfl rfl kt qH.sizea qH.onea ?_;refine hK.out _ _ CC (λhHeld=> ?_);clear hK K;refine wpAnyH_take (i:=11) (v:= ?_) rfl oM oM oM (λ_ _ _ h=>(by cases h.1)) (.inl ⟨by rfl,?_⟩) hHeld ?_
   rotate_left
   ·intro w Dc;obtain⟨s0,s1⟩:=Dc;go_simp
    with_reducible rfl
   simp only[Act.put,getElem_toArray,getElem_cons_zero,getElem_cons_succ,setIfInBounds_toArray,set_cons_zero,set_cons_succ];refine wpAnyH_done oM ?_ _;exact zqX (fr:=(λgx f=>{ tmps:= #[.pointer (some ⟨g,0,none⟩),.int .i64 x,undef,undef,.int .i64 0,.pointer (some ⟨gx,0,none⟩),.int .i64 up,undef,undef,undef,undef,f 11,f 12,f 13,f 14,f 15,f 16,f 17,f 18,f 19,undef,undef,undef,undef,undef,undef,undef,undef,undef,undef,undef,undef,undef,undef,undef,undef,undef,undef,undef,undef,undef,undef,undef,undef,undef,undef,undef,undef,undef,undef,undef,undef,undef,undef,undef,undef,undef,undef,undef,undef,undef,undef,undef,undef,undef,undef,undef,undef,undef,undef,undef,undef,undef,undef,undef,undef,undef,undef,undef,undef,undef,undef],defers:=[] })) (Φ:=(λgx W=>Blk W gx 215 XB.toArray/\Bw w W/\w.heap.size<=gx)) w.heap.size tf rfl
 ·rintro gx f W ⟨kM,dJ,nN⟩;clear CA CB CC kt tf Hl cY hg;have KB:=kA kM;have HH:=kA (vp W dJ);have HB:=kA dJ;clear kM dJ vp qG;go_wp2_with fail;refine HH.mono ?_;rintro e W1 ⟨rfl,b1⟩;replace KB:=kA (KB.keep b1);replace HB:=kA (zad HB b1);obtain⟨c2,hg,hl⟩:=Cu.out W1 HB;have vq:Hid (∀u,Bw w u->u.cell? ⟨g,2,none⟩=some (.map (some gs))/\g<u.heap.size/\True):=kA (λu q=>⟨(Cu u q).1,(Cu u q).2.1,trivial⟩);clear b1 HH Cu
  cases ho with
  | false=>
   obtain⟨Cy,Hu⟩:=CF.out W1 gx KB;have zx:=KB.lt;obtain⟨dB,Y7⟩:∃dB,dB=nd.2:=⟨_,rfl⟩;obtain⟨w2,r2,Hi,Ku,QR⟩:=kQ.out W1.drew (⟨x,nd.1,!nd.2⟩,1) (zad HB (zav W1))
   have qJ:Hid (w2.cell? ⟨g,2,none⟩=some (.map (some gs))/\w2.cell? ⟨gx,12,none⟩=some (.bool nd.2)/\w2.rangeAt gx 0 MB):=kA (by
    have k2:=KB.same (w':=w2) (Ku gx nN zx)
    exact⟨QR,(CF w2 gx k2).2,(CF w2 gx k2).1⟩)
   clear Ku QR;have vt:ChL w w2 p (wS p (zxS p.S x (zn0 nd false ou x).1)):=Hi;have H9:=kA vt;have Cv:∀W,(Instr.build 228 #[(0,.agg MB.toArray),(1,.bool !dB)]).run prog W= .ok (.agg (MB++[Value.bool !dB]).toArray) W:=λW=>by rw[qI.out];exact zkW _ _ W
   have Dx:∀W,(Instr.build 299 #[(0,.agg (MB++[Value.bool !dB]).toArray),(1,.int .i64 1)]).run prog W= .ok (.agg (MB++[Value.bool !dB,Value.int .i64 1]).toArray) W:=λW=>by rw[qI.out];exact zhv _ _ _ W
   have EJ:(Instr.mapUpdate 198 (.map (some gs)) (.int .i64 x) (.agg (MB++[Value.bool !dB,Value.int .i64 1]).toArray)).run prog W1.drew= .ok () w2:=by
    rw[qI.out,Y7];exact r2
   rw[<-Y7]at Hu qJ;obtain⟨X1,CY⟩:∃X1,X1=MB++[Value.bool !dB]:=⟨_,rfl⟩;obtain⟨X2,Db⟩:∃X2,X2=MB++[Value.bool !dB,Value.int .i64 1]:=⟨_,rfl⟩;rw[<-CY]at Cv Dx;rw[<-Db]at Dx EJ;have SA:=kA (And.intro c2 (And.intro Hu Cy));clear Hi vt r2 hl kQ Hk Dl dN Y7 CY Db CF c2 Hu Cy;go_wp2;refine wp_region_held_drew (S:=λw'=>w'.cell? ⟨g,2,none⟩=some (.map (some gs))/\w'.cell? ⟨gx,12,none⟩=some (.bool dB)/\w'.rangeAt gx 0 MB) oM (SA.out) (λhHeld=> ?_);refine tk 0 hHeld ?_;refine tk 1 hHeld ?_;refine tk 2 hHeld ?_;refine tk 3 hHeld ?_;refine tk 4 hHeld ?_;refine tk 5 hHeld ?_;refine tkl 6 rfl (yieldsIf_load_mid (by rfl) _ _ rfl _ _ rfl _ _ (λ_ h=>h.2.2) underlying46 rfl te.size) hHeld ?_;refine tk 7 hHeld ?_;refine tk 8 hHeld ?_;refine tk 9 hHeld ?_;refine wpAnyH_take (i:=10) (v:=(.agg X1.toArray)) rfl oM oM oM (λ_ _ _ h=>h) (zbx (by rfl) 228 _ _ rfl (.agg MB.toArray) (.bool !dB) (.agg X1.toArray) rfl rfl Cv) hHeld ?_;simp only[Act.put,getElem_toArray,getElem_cons_zero,getElem_cons_succ,setIfInBounds_toArray,set_cons_zero,set_cons_succ];refine wpAnyH_take (i:=11) (v:=(.agg X2.toArray)) rfl oM oM oM (λ_ _ _ h=>h) (zbx (by rfl) 299 _ _ rfl (.agg X1.toArray) (.int .i64 1) (.agg X2.toArray) rfl rfl Dx) hHeld ?_;simp only[Act.put,getElem_toArray,getElem_cons_zero,getElem_cons_succ,setIfInBounds_toArray,set_cons_zero,set_cons_succ];refine rd 12 (λK hK=> ?_);go_simp;refine hK.out _ _ qJ (λhHeld=> ?_);clear hK K;refine wpAnyH_done oM ?_ _;go_wp2;go_ret;exact⟨rfl,H9⟩
  | true=>
   have cZ:=kA (zvP (ou.getD zRf));have Xx:Hid (∀W gg,Blk W gg 299 (cSd (ou.getD zRf)).toArray->W.rangeAt gg 0 (lM (ou.getD zRf).1.wo)/\W.cell? ⟨gg,12,none⟩=some (.bool (ou.getD zRf).1.sh)/\W.cell? ⟨gg,13,none⟩=some (.int .i64 (ou.getD zRf).2)):=kA (λW gg k=>⟨zaH k 0 12,k.cell 12,k.cell 13⟩);have KF:w.heap.size<=W1.heap.size:=HB.size;obtain⟨XR,yQ⟩:∃XR,XR=cSd (ou.getD zRf):=⟨_,rfl⟩;rw[<-yQ]at cZ Xx hl;have j6:Hid ((W1.alloc (.cells (cSd zRf).toArray 299)).there W1.heap.size 0 XR.toArray.size):=kA (zae (Blk.new W1 _ _) (by rw[size_toArray,cZ.len];exact Nat.le_refl 14));have vu:Bw W1 (W1.alloc (.cells (cSd zRf).toArray 299)):=zaa _ _;have qK:Bw W1 ((W1.alloc (.cells (cSd zRf).toArray 299)).setCells W1.heap.size 0 XR):=zab XR vu (Nat.le_refl _);have Zi:Hid (Blk ((W1.alloc (.cells (cSd zRf).toArray 299)).setCells W1.heap.size 0 XR) W1.heap.size 299 XR.toArray/\Blk ((W1.alloc (.cells (cSd zRf).toArray 299)).setCells W1.heap.size 0 XR) gx 215 XB.toArray/\Bw w ((W1.alloc (.cells (cSd zRf).toArray 299)).setCells W1.heap.size 0 XR)):=kA ⟨zal (Blk.new W1 _ _) (by rw[cZ.len];rfl),KB.keep qK,zad HB qK⟩;obtain⟨os,Zt⟩:∃os,os=ou.isSome:=⟨_,rfl⟩;rw[<-Zt]at hl;clear yQ vu qK;go_upto_region 6 with (refine wpList_store_mid rfl 299 (.tmp 7) (.tmp 43) rfl W1.heap.size 0 XR.toArray rfl rfl j6 cZ.sizea cZ.onea ?_);refine fin (λW=>Blk W W1.heap.size 299 XR.toArray/\Blk W gx 215 XB.toArray/\Bw w W) Zi ?_;clear Zi j6 cZ hl c2 hg KB HB;obtain⟨g7,xl⟩:∃g7,g7=W1.heap.size:=⟨_,rfl⟩;rw[<-xl]at KF ⊢;rintro W2 ⟨k7,kb,Kd⟩;have K7:=kA k7;have KB:=kA kb;have HB:=kA Kd;clear k7 kb Kd xl
   cases ou with
   | none=>
    have qL:os=false:=Zt;subst qL;have Zo:=kA (Hk W2 HB);clear Zt Hk kQ Dl;go_wp2;go_ret;exact⟨rfl,Zo⟩
   | some u=>
    have qL:os=true:=Zt;subst qL;obtain⟨tg,Xd,Ye⟩:=Xx.out W2 g7 K7;have EK:=K7.lt;obtain⟨Hp,xc⟩:=Dl.out u rfl;have hV:zn0 nd true (some u) x=if 16<=u.2 then (none,7) else if zaG u.1.wo nd.1=0 then (some (⟨x,zbB u.1.wo nd.1,u.1.sh && !nd.2⟩,u.2+1),0) else (none,zaG u.1.wo nd.1):=rfl
    replace Ye:W2.cell? ⟨g7,13,none⟩=some (.int .i64 (u.2:Int)):=Ye;clear Zt
    by_cases QM:16<=u.2
    ·rw[if_pos QM]at hV;have Zo:Hid (ChL w W2 p (wS p (zxS p.S x (zn0 nd true (some u) x).1))):=kA (by rw[hV];exact Hk W2 HB);have dU:Hid ((zn0 nd true (some u) x).2=7):=kA (by rw[hV]);obtain⟨d,hd⟩:∃d,d=u.2:=⟨_,rfl⟩;rw[<-hd]at QM Ye;have qM:(16:Int)<=(d:Int):=om;have eN:decide ((16:Int)<=(d:Int))=true:=decide_eq_true qM;clear hV Hk kQ Dl hd Hp xc Xx tg Xd QM;go_wp2;go_ret;exact⟨by rw[dU.out] <;> rfl,Zo⟩
    ·rw[if_neg QM]at hV;have HMul:Hid (∀W gg,Blk W gg 46 (lM u.1.wo++MB).toArray->Calls prog 254 #[.slice (some ⟨gg,0,none⟩) 2 2] W λe w'=>e= .returned (.tuple #[.agg (lM (if zaG u.1.wo nd.1=0 then zbB u.1.wo nd.1 else zdK)).toArray,.int .i64 (zaG u.1.wo nd.1)])/\Bw W w'):=kA (λW gg k=>zuV u.1.wo nd.1 Hp dN W gg (by rw[qI.out]at k;exact k))
     have Dk:Hid (∀W,(Instr.buildSlice 326 2 #[(0,.agg (lM u.1.wo).toArray),(1,.agg MB.toArray)]).run prog W= .ok (.slice (some ⟨W.heap.size,0,none⟩) 2 2) (W.alloc (.cells (lM u.1.wo++MB).toArray 46))):=kA (λW=>by rw[qI.out];exact zxT _ _ W);have nP:=kA (zj4 u.1.wo);have Xa:Hid (W2.rangeAt g7 0 (lM u.1.wo)):=kA tg;have QD:Hid (W2.rangeAt gx 0 MB):=kA (CF W2 gx KB).1;have Da:=kA (zj4 (if zaG u.1.wo nd.1=0 then zbB u.1.wo nd.1 else zdK))
     obtain⟨MU,nQ⟩:∃MU,MU=lM u.1.wo:=⟨_,rfl⟩;obtain⟨E,hE⟩:∃E,E=zaG u.1.wo nd.1:=⟨_,rfl⟩;rw[<-nQ]at HMul Dk nP Xa;rw[<-hE]at HMul Da hV;obtain⟨PM,ti⟩:∃PM,PM=(if E=0 then zbB u.1.wo nd.1 else zdK):=⟨_,rfl⟩
     rw[<-ti]at HMul Da;obtain⟨MP,tj⟩:∃MP,MP=lM PM:=⟨_,rfl⟩;rw[<-tj]at HMul Da;obtain⟨ZZ,nR⟩:∃ZZ,ZZ=MU++MB:=⟨_,rfl⟩;rw[<-nR]at HMul Dk;have yA:=kA tj;have Y8:=kA ti;have Zu:=kA hV;obtain⟨d,hd⟩:∃d,d=u.2:=⟨_,rfl⟩;have HD:=kA hd;rw[<-hd]at QM Ye xc;have qM:¬(16:Int)<=(d:Int):=om;have QN:Hid (∀V,Bw W2 V->Blk V g7 299 XR.toArray/\Blk V gx 215 XB.toArray/\Bw w V):=kA (λV q=>⟨K7.keep q,KB.keep q,zad HB q⟩);have Ko:w.heap.size<=W2.heap.size:=HB.size;clear hV tg Xd Hp nQ hE ti tj nR hd QM dN Dl KB HB;go_wp2_with (first | refine wpList_load_mid rfl 46 (.tmp 52) rfl g7 0 rfl MU _ Xa underlying46 rfl nP.size ?_ | refine wpList_load_mid rfl 46 (.tmp 54) rfl gx 0 rfl MB _ QD underlying46 rfl te.size ?_ | refine zpe rfl 326 46 (.tmp 53) (.tmp 55) rfl MU MB ZZ rfl rfl Dk ?_)
     refine (HMul _ _ (Blk.new W2 _ _)).mono ?_;rintro e V ⟨rfl,bv⟩;have Yk:Bw W2 V:=zad (zaa _ _) bv;have nS:Hid ((V.alloc (.cells (lM zdK).toArray 46)).there V.heap.size 0 MP.toArray.size):=kA (zae (Blk.new V _ _) (by have:=Da.len;rw[size_toArray,this];exact Nat.le_refl 12));have vw:Bw V (V.alloc (.cells (lM zdK).toArray 46)):=zaa _ _;have vA:Bw V ((V.alloc (.cells (lM zdK).toArray 46)).setCells V.heap.size 0 MP):=zab MP vw (Nat.le_refl _);have Zj:Hid (Blk ((V.alloc (.cells (lM zdK).toArray 46)).setCells V.heap.size 0 MP) V.heap.size 46 MP.toArray/\Bw W2 ((V.alloc (.cells (lM zdK).toArray 46)).setCells V.heap.size 0 MP)):=kA ⟨zal (Blk.new V _ _) (by rw[Da.len];rfl),zad Yk vA⟩;have xR:W2.heap.size<=V.heap.size:=Yk.size;clear bv Yk vw vA HMul Dk Xa QD Ye EK K7;go_upto_region 11 with (refine wpList_store_mid rfl 46 (.tmp 9) (.tmp 58) rfl V.heap.size 0 MP.toArray rfl rfl nS Da.sizea Da.onea ?_);refine fin (λW=>Blk W V.heap.size 46 MP.toArray/\Bw W2 W) Zj ?_;clear Zj nS;obtain⟨g9,vB⟩:∃g9,g9=V.heap.size:=⟨_,rfl⟩;rw[<-vB]at xR ⊢;rintro W3 ⟨k9,KL⟩;obtain⟨k7,kb,tn⟩:=QN.out W3 KL;have HB:=kA tn;clear vB QN KL
     by_cases Dy:E=0
     ·subst Dy;rw[if_pos rfl]at Zu Y8;obtain⟨c2,hg,-⟩:=vq.out W3 HB;obtain⟨w2,r2,Hi,Ku,QR⟩:=kQ.out W3.drew (⟨x,zbB u.1.wo nd.1,u.1.sh && !nd.2⟩,d+1) (zad HB (zav W3));have H9:Hid (ChL w w2 p (wS p (zxS p.S x (zn0 nd true (some u) x).1))):=kA (by rw[Zu.out,<-HD.out];exact Hi);have dU:Hid ((zn0 nd true (some u) x).2=0):=kA (by rw[Zu.out]);have nT:W3.rangeAt g9 0 MP:=zac k9;obtain⟨_,Xd,Ye⟩:=Xx.out W3 g7 k7;replace Ye:W3.cell? ⟨g7,13,none⟩=some (.int .i64 (d:Int)):=by rw[HD.out];exact Ye
      have tp:=(CF W3 gx kb).2;replace Xd:W3.cell? ⟨g7,12,none⟩=some (.bool u.1.sh):=Xd;have zx:=kb.lt;have z7:=k7.lt;have z9:=k9.lt
      have qJ:Hid (w2.cell? ⟨g,2,none⟩=some (.map (some gs))/\w2.cell? ⟨g7,12,none⟩=some (.bool u.1.sh)/\w2.cell? ⟨g7,13,none⟩=some (.int .i64 (d:Int))/\w2.cell? ⟨gx,12,none⟩=some (.bool nd.2)/\w2.rangeAt g9 0 MP):=kA (by
       have q7:=k7.same (w':=w2) (Ku g7 KF z7);have qx:=kb.same (w':=w2) (Ku gx nN zx);have q9:=k9.same (w':=w2) (Ku g9 (Nat.le_trans Ko xR) z9)
       exact⟨QR,(Xx w2 g7 q7).2.1,by rw[HD.out];exact (Xx w2 g7 q7).2.2,(CF w2 gx qx).2,zac q9⟩)
      have ki:Hid ((Instr.mapUpdate 198 (.map (some gs)) (.int .i64 x) (.agg (MP++[Value.bool (u.1.sh && !nd.2),Value.int .i64 ((d:Int)+1)]).toArray)).run prog W3.drew= .ok () w2):=kA (by
       rw[yA.out,Y8.out]
       exact r2)
      have Hg:Hid (∀b W,(Instr.build 228 #[(0,.agg MP.toArray),(1,.bool b)]).run prog W= .ok (.agg (MP++[Value.bool b]).toArray) W):=kA (λb W=>by rw[yA.out];exact zkW _ b W);have Hm:Hid (∀b W,(Instr.build 299 #[(0,.agg (MP++[Value.bool b]).toArray),(1,.int .i64 ((d:Int)+1))]).run prog W= .ok (.agg (MP++[Value.bool b,Value.int .i64 ((d:Int)+1)]).toArray) W):=kA (λb W=>by rw[yA.out];exact zhv _ b _ W);have hw:IntKind.i64.wrap ((d:Int)+1)=(d:Int)+1:=by rw[IntKind.wrap_i64];omega
      obtain⟨dB,Y7⟩:∃dB,dB=nd.2:=⟨_,rfl⟩;obtain⟨sh,nU⟩:∃sh,sh=u.1.sh:=⟨_,rfl⟩;rw[<-Y7]at tp qJ ki;rw[<-nU]at Xd qJ ki;have SA:=kA (And.intro c2 (And.intro Xd (And.intro Ye (And.intro tp nT))));clear Hi r2 Ku QR c2 Xd Ye tp nT Y7 nU k7 kb k9 kQ Hk Zu Y8 yA Xx CF vq HD qM
      cases sh with
      | false=>
       have Cv:=Hg.out false;have Dx:=Hm.out false;have dy:=ki.out;rw[Bool.false_and]at dy;obtain⟨X1,CY⟩:∃X1,X1=MP++[Value.bool false]:=⟨_,rfl⟩;obtain⟨X2,Db⟩:∃X2,X2=MP++[Value.bool false,Value.int .i64 ((d:Int)+1)]:=⟨_,rfl⟩;rw[<-CY]at Cv Dx;rw[<-Db]at Dx dy;clear Hg Hm ki CY Db;go_wp2;refine wp_region_held_drew (S:=λw'=>w'.cell? ⟨g,2,none⟩=some (.map (some gs))/\w'.cell? ⟨g7,12,none⟩=some (.bool false)/\w'.cell? ⟨g7,13,none⟩=some (.int .i64 (d:Int))/\w'.cell? ⟨gx,12,none⟩=some (.bool dB)/\w'.rangeAt g9 0 MP) oM (SA.out) (λhHeld=> ?_);refine tk 0 hHeld ?_;refine tk 1 hHeld ?_;refine tk 2 hHeld ?_;refine tk 3 hHeld ?_;refine tk 4 hHeld ?_;refine tkl 5 rfl (yieldsIf_load_mid (by rfl) _ _ rfl _ _ rfl _ _ (λ_ h=>h.2.2.2.2) underlying46 rfl Da.size) hHeld ?_;refine tk 6 hHeld ?_;refine tk 7 hHeld ?_;refine tk 8 hHeld ?_;refine tk 9 hHeld ?_;refine tks 10 hHeld ?_;refine tks 11 hHeld ?_;refine tks 12 hHeld ?_;refine tk 13 hHeld ?_;refine wpAnyH_take (i:=14) (v:=(.agg X1.toArray)) rfl oM oM oM (λ_ _ _ h=>h) (zbx (by rfl) 228 _ _ rfl (.agg MP.toArray) (.bool false) (.agg X1.toArray) rfl rfl Cv) hHeld ?_;simp only[Act.put,getElem_toArray,getElem_cons_zero,getElem_cons_succ,setIfInBounds_toArray,set_cons_zero,set_cons_succ];refine tk 15 hHeld ?_;refine tk 16 hHeld ?_;refine tk 17 hHeld ?_;refine wpAnyH_take (i:=18) (v:=(.agg X2.toArray)) rfl oM oM oM (λ_ _ _ h=>h) (zbx (by rfl) 299 _ _ rfl (.agg X1.toArray) (.int .i64 ((d:Int)+1)) (.agg X2.toArray) rfl rfl Dx) hHeld ?_;simp only[Act.put,getElem_toArray,getElem_cons_zero,getElem_cons_succ,setIfInBounds_toArray,set_cons_zero,set_cons_succ];refine rd 19 (λK hK=> ?_);go_simp;refine hK.out _ _ qJ (λhHeld=> ?_);clear hK K;refine wpAnyH_done oM ?_ _;go_wp2;go_ret;exact⟨by rw[dU.out] <;> rfl,H9⟩
      | true=>
       have Cv:=Hg.out (!dB);have Dx:=Hm.out (!dB);have dy:=ki.out;rw[Bool.true_and]at dy;obtain⟨X1,CY⟩:∃X1,X1=MP++[Value.bool !dB]:=⟨_,rfl⟩;obtain⟨X2,Db⟩:∃X2,X2=MP++[Value.bool !dB,Value.int .i64 ((d:Int)+1)]:=⟨_,rfl⟩;rw[<-CY]at Cv Dx;rw[<-Db]at Dx dy;clear Hg Hm ki CY Db;go_wp2;refine wp_region_held_drew (S:=λw'=>w'.cell? ⟨g,2,none⟩=some (.map (some gs))/\w'.cell? ⟨g7,12,none⟩=some (.bool true)/\w'.cell? ⟨g7,13,none⟩=some (.int .i64 (d:Int))/\w'.cell? ⟨gx,12,none⟩=some (.bool dB)/\w'.rangeAt g9 0 MP) oM (SA.out) (λhHeld=> ?_);refine tk 0 hHeld ?_;refine tk 1 hHeld ?_;refine tk 2 hHeld ?_;refine tk 3 hHeld ?_;refine tk 4 hHeld ?_;refine tkl 5 rfl (yieldsIf_load_mid (by rfl) _ _ rfl _ _ rfl _ _ (λ_ h=>h.2.2.2.2) underlying46 rfl Da.size) hHeld ?_;refine tk 6 hHeld ?_;refine tk 7 hHeld ?_;refine tk 8 hHeld ?_;refine tk 9 hHeld ?_;refine tk 10 hHeld ?_;refine tk 11 hHeld ?_;refine tk 12 hHeld ?_;refine tk 13 hHeld ?_;refine wpAnyH_take (i:=14) (v:=(.agg X1.toArray)) rfl oM oM oM (λ_ _ _ h=>h) (zbx (by rfl) 228 _ _ rfl (.agg MP.toArray) (.bool !dB) (.agg X1.toArray) rfl rfl Cv) hHeld ?_;simp only[Act.put,getElem_toArray,getElem_cons_zero,getElem_cons_succ,setIfInBounds_toArray,set_cons_zero,set_cons_succ];refine tk 15 hHeld ?_;refine tk 16 hHeld ?_;refine tk 17 hHeld ?_;refine wpAnyH_take (i:=18) (v:=(.agg X2.toArray)) rfl oM oM oM (λ_ _ _ h=>h) (zbx (by rfl) 299 _ _ rfl (.agg X1.toArray) (.int .i64 ((d:Int)+1)) (.agg X2.toArray) rfl rfl Dx) hHeld ?_;simp only[Act.put,getElem_toArray,getElem_cons_zero,getElem_cons_succ,setIfInBounds_toArray,set_cons_zero,set_cons_succ];refine rd 19 (λK hK=> ?_);go_simp;refine hK.out _ _ qJ (λhHeld=> ?_);clear hK K;refine wpAnyH_done oM ?_ _;go_wp2;go_ret;exact⟨by rw[dU.out] <;> rfl,H9⟩
     ·rw[if_neg Dy]at Zu;have Zo:Hid (ChL w W3 p (wS p (zxS p.S x (zn0 nd true (some u) x).1))):=kA (by rw[Zu.out];exact Hk W3 HB);have dU:Hid ((zn0 nd true (some u) x).2=E):=kA (by rw[Zu.out]);clear kQ Hk Zu Y8 yA Xx CF HD k7 kb k9;go_wp2;go_ret;exact⟨by rw[dU.out] <;> rfl,Zo⟩
end
def zez(L:List Nd):FT:=L.filterMap (λn=>if 0<=n.par then some (n.id,n.par) else none)
theorem zhw:(x,y)∈zez L↔∃n∈L,n.id=x/\0<=n.par/\n.par=y:=by
 unfold zez;rw[mem_filterMap];constructor
 ·rintro⟨n,hn,h⟩
  by_cases c:0<=n.par
  ·rw[if_pos c]at h;injection h with h;injection h with h1 h2;exact⟨n,hn,h1,c,h2⟩
  ·rw[if_neg c]at h;cases h
 ·rintro⟨n,hn,e1,c,e2⟩;exact⟨n,hn,by rw[if_pos c,e1,e2]⟩
theorem zmt(h:(L.map Nd.id).Nodup):((zez L).map Prod.fst).Nodup:=by
 have key:∀M:List Nd,(zez M).map Prod.fst=(M.filter (λn=>decide (0<=n.par))).map Nd.id:=by
  intro M;unfold zez
  induction M with
  | nil=>rfl
  | cons m M ih=>
   by_cases c:0<=m.par
   ·rw[filterMap_cons_some (b:=(m.id,m.par)) (by rw[if_pos c]),filter_cons_of_pos (by simpa using c),map_cons,map_cons,ih]
   ·rw[filterMap_cons_none (by rw[if_neg c]),filter_cons_of_neg (by simpa using c),ih]
 rw[key];exact h.sublist (List.Sublist.map _ filter_sublist)
theorem zdA(h:(L.map Nd.id).Nodup){x:Int}{n:Nd}(e:elF Nd.id L x=some n):zak (zez L) x=if 0<=n.par then some n.par else none:=by
 by_cases c:0<=n.par
 ·rw[if_pos c];exact zcF (zmt h) (zhw.2 ⟨n,(zb1 e).2,(zb1 e).1,c,rfl⟩)
 ·rw[if_neg c]
  cases hp:zak (zez L) x with
  | none=>rfl
  | some y=>
   obtain⟨m,hm,e1,c1,_⟩:=zhw.1 (zbp hp);have:=zdg h hm;rw[e1,e]at this;injection this with this;rw[this]at c;exact absurd c1 c
theorem zcD(e:elF Nd.id L x=none):zak (zez L) x=none:=by
 cases hp:zak (zez L) x with
 | none=>rfl
 | some y=>
  obtain⟨m,hm,e1,_⟩:=zhw.1 (zbp hp);exact absurd e1 (zcZ.1 e m hm)
theorem zck(h:(L.map Nd.id).Nodup)(x:Int):zak (zaj L) x=match zak (zez L) x with
  | none=>none
  | some y=>if (elF Nd.id L y).isSome=true then some y else none:=by
 rw[zau h]
 cases e:elF Nd.id L x with
 | none=>rw[zcD e,zcb e,if_neg om]
 | some n=>
  rw[zdA h e,zbn e]
  by_cases c:0<=n.par
  ·rw[if_pos c];show _=if (elF Nd.id L n.par).isSome=true then some n.par else none
   by_cases d:(elF Nd.id L n.par).isSome=true
   ·have hh:(if n.par<0∨(elF Nd.id L n.par).isNone=true then (-1:Int) else n.par)=n.par:=if_neg (λq=>q.elim (λq=>om) (λq=>zd9.1 q d))
    rw[hh,if_pos d,if_pos c]
   ·have hh:(if n.par<0∨(elF Nd.id L n.par).isNone=true then (-1:Int) else n.par)= -1:=if_pos (.inr (zd9.2 d))
    rw[hh,if_neg d,if_neg om]
  ·rw[if_neg c,if_pos (.inl om:_∨_),if_neg om]
theorem zvQ(h:(L.map Nd.id).Nodup)(hW:WF (zaj L)):WF (zez L):=by
 refine⟨zmt h,?_⟩;have key:∀ (l:List Int) (x:Int),IsA (zaj L) x l->∃l',IsA (zez L) x l':=by
  intro l
  induction l with
  | nil=>
   intro x hx;have h1:zak (zaj L) x=none:=hx;rw[zck h]at h1
   cases hp:zak (zez L) x with
   | none=>exact⟨[],hp⟩
   | some y=>
    rw[hp]at h1;simp only at h1
    by_cases d:(elF Nd.id L y).isSome=true
    ·rw[if_pos d]at h1;cases h1
    ·refine⟨[y],hp,?_⟩;show zak (zez L) y=none;refine zcD ?_
     cases q:elF Nd.id L y with
     | none=>rfl
     | some n=>rw[q]at d;exact absurd rfl d
  | cons y l ih=>
   intro x hx;have h1:=hx.1;rw[zck h]at h1;obtain⟨l',hl⟩:=ih y hx.2
   cases hp:zak (zez L) x with
   | none=>rw[hp]at h1;cases h1
   | some z=>
    rw[hp]at h1;simp only at h1
    by_cases d:(elF Nd.id L z).isSome=true
    ·rw[if_pos d]at h1;injection h1 with h1;exact⟨y::l',by rw[hp,h1],hl⟩
    ·rw[if_neg d]at h1;cases h1
 exact λx=>key _ x (hW.isA x)
theorem zzo(h:(L.map Nd.id).Nodup)(hW:WF (zez L)):WF (zaj L):=by
 refine⟨zdT h,?_⟩;have key:∀ (l:List Int) (x:Int),IsA (zez L) x l->∃l',IsA (zaj L) x l':=by
  intro l
  induction l with
  | nil=>
   intro x hx;have h1:zak (zez L) x=none:=hx;exact⟨[],by show zak (zaj L) x=none;rw[zck h,h1]⟩
  | cons y l ih=>
   intro x hx;obtain⟨l',hl⟩:=ih y hx.2
   by_cases d:(elF Nd.id L y).isSome=true
   ·exact⟨y::l',by rw[zck h,hx.1];simp only;rw[if_pos d],hl⟩
   ·exact⟨[],by show zak (zaj L) x=none;rw[zck h,hx.1];simp only;rw[if_neg d]⟩
 exact λx=>key _ x (hW.isA x)
theorem zsr{T U:FT}(h:∀x,zak T x=zak U x):∀ {l:List Int} {x:Int},IsA T x l->IsA U x l
 | [],x,hx=>by show zak U x=none;rw[<-h];exact hx
 | y::l,x,hx=>⟨by rw[<-h];exact hx.1,zsr h hx.2⟩
theorem zAD(hU:(U.map Prod.fst).Nodup)(h:∀x,zak T x=zak U x)(hT:WF T):WF U:=⟨hU,λx=>⟨_,zsr h (hT.isA x)⟩⟩
theorem zzp(hT:WF T)(hU:WF U)(h:∀x,zak T x=zak U x)(x:Int):abv T x=abv U x:=(hU.isA x).uniq (zsr h (hT.isA x)) |>.symm
theorem zxU(hn:(T.map Prod.fst).Nodup){x:Int}(h:x∈T.map Prod.fst):∃y,zak T x=some y:=by
 obtain⟨⟨a,b⟩,hp,e⟩:=mem_map.1 h;have e:a=x:=e;exact⟨b,zcF hn (e ▸ hp)⟩
theorem zxV(hn:(T.map Prod.fst).Nodup){K:List Int}(h:∀x,(zak T x).isSome=true->x∈K):T.length<=K.length:=by
 have:=zef (m:=K) hn (λz hz=>by
  obtain⟨y,e⟩:=zxU hn hz
  exact h z (by rw[e];rfl))
 rwa [length_map]at this
def stv(L:List Nd)(x:Int):Option RD:=(zb2 L x).1.map (λs=>(s,(abv (zaj L) x).length+1))
structure LIf (D:FD) (p:Wp):Prop where
 wf:WF p.T
 par:∀x,zak p.T x=zak (zez D.L) x
 nod:∀x,p.N x=(elF Nd.id D.L x).map (λn=>(n.pl,n.hid))
 mrk:∀x,(p.M x).isSome=true↔(elF Nd.id D.L x).isSome=true/\(D.begun=true->x∈D.dirty)
 non:∀x,elF Nd.id D.L x=none->p.S x=none
 sts:D.begun=true->∀x,(elF Nd.id D.L x).isSome=true->x∉zah D->p.S x=stv D.L x
 st:p.st=D.steps
section
variable {D:FD} {p:Wp}
theorem LIf.nodS(h:LIf D p)(x:Int):(p.N x).isSome=(elF Nd.id D.L x).isSome:=by rw[h.nod];cases elF Nd.id D.L x <;> rfl
theorem LIf.len(h:LIf D p):p.T.length<=D.L.length:=by
 have:=zxV h.wf.1 (K:=D.L.map Nd.id) (λx hx=>by
  rw[h.par]at hx;rw[<-zi0]
  cases e:elF Nd.id D.L x with
  | some n=>rfl
  | none=>rw[zcD e]at hx;cases hx)
 rwa [length_map]at this
theorem LIf.mark_dirty(h:LIf D p)(x:Int):(p.M x).isSome=true↔x∈zbU D:=by
 rw[h.mrk]
 by_cases hb:D.begun=true
 ·rw[zb3 hb];exact⟨λq=>⟨q.2 hb,q.1⟩,λq=>⟨q.2,λ_=>q.1⟩⟩
 ·unfold zbU;rw[if_neg hb,zbg];exact⟨λq=>q.1,λq=>⟨q,λc=>absurd c hb⟩⟩
theorem LIf.abvs(hD:DOk D)(h:LIf D p){x y:Int}(hy:(elF Nd.id D.L y).isSome=true):y∈abv p.T x↔y∈abv (zaj D.L) x:=by
 have hR:=zvQ hD.nod hD.wf;rw[zzp h.wf hR h.par];have k1:∀ (l:List Int) (x:Int),IsA (zez D.L) x l->y∈l->y∈abv (zaj D.L) x:=by
  intro l
  induction l with
  | nil=>intro x _ q;cases q
  | cons z l ih=>
   intro x hx q;have hz:(elF Nd.id D.L z).isSome=true:=by
    rcases mem_cons.1 q with rfl | q
    ·exact hy
    ·cases l with
     | nil=>cases q
     | cons a l=>
      cases e:elF Nd.id D.L z with
      | some n=>rfl
      | none=>have:=hx.2.1;rw[zcD e]at this;cases this
   have hp:zak (zaj D.L) x=some z:=by rw[zck hD.nod,hx.1];simp only;rw[if_pos hz]
   rw[za0 hD.wf hp];rcases mem_cons.1 q with rfl | q
   ·exact mem_cons_self
   ·exact mem_cons_of_mem _ (ih z hx.2 q)
 have k2:∀ (l:List Int) (x:Int),IsA (zaj D.L) x l->y∈l->y∈abv (zez D.L) x:=by
  intro l
  induction l with
  | nil=>intro x _ q;cases q
  | cons z l ih=>
   intro x hx q;have hp:zak (zez D.L) x=some z:=by
    have h1:=hx.1;rw[zck hD.nod]at h1
    cases e:zak (zez D.L) x with
    | none=>rw[e]at h1;cases h1
    | some a=>
     rw[e]at h1;simp only at h1
     by_cases d:(elF Nd.id D.L a).isSome=true
     ·rw[if_pos d]at h1;exact h1
     ·rw[if_neg d]at h1;cases h1
   rw[za0 hR hp];rcases mem_cons.1 q with rfl | q
   ·exact mem_cons_self
   ·exact mem_cons_of_mem _ (ih z hx.2 q)
 exact⟨k1 _ x (hR.isA x),k2 _ x (hD.wf.isA x)⟩
theorem LIf.chd(hD:DOk D)(h:LIf D p){x:Int}(hx:(elF Nd.id D.L x).isSome=true):chF p.T x=chF (zaj D.L) x:=by
 refine zg5 (zb7 h.wf.1 x) (zb7 hD.wf.1 x) (λz=> ?_);rw[zaA h.wf.1,zaA hD.wf.1,h.par,zck hD.nod]
 cases e:zak (zez D.L) z with
 | none=>simp
 | some y=>
  simp only
  by_cases d:(elF Nd.id D.L y).isSome=true
  ·rw[if_pos d]
  ·rw[if_neg d];constructor
   ·intro q;injection q with q;rw[q]at d;exact absurd hx d
   ·intro q;cases q
theorem LIf.touch(hD:DOk D)(h:LIf D p){K:List Int}(hK:∀z,z∈K↔(p.M z).isSome=true):zfO p.T K=zah D:=by
 have h1:zfO p.T K=zfO (zaj D.L) K:=ztM h.wf hD.wf (N:=λx=>(elF Nd.id D.L x).isSome=true) (λx hx=>((h.mrk x).1 ((hK x).1 hx)).1) (λx hx=>h.chd hD hx) (λx hx c hc=>by
  rw[h.chd hD hx]at hc;have:=zeT.1 (zbp ((zaA hD.wf.1).1 hc));obtain⟨n,hn,e⟩:=this.1
  exact zaN.2 ⟨n,hn,e⟩) (λx y _ hy=>h.abvs hD hy)
 rw[h1];unfold zah;exact zw2 (λz=>by rw[hK,h.mark_dirty])
def zil(T:FT)(M:Int->Option Unit)(x:Int):Bool:=(M x).isSome || (abv T x).any (λy=>(M y).isSome)
theorem zuW{M:Int->Option Unit}(h:WF T){x:Int}(hp:zak T x=none):zil T M x=(M x).isSome:=by
 unfold zil;rw[zeP h hp];simp
theorem zuX{M:Int->Option Unit}(h:WF T){x y:Int}(hp:zak T x=some y):zil T M x=((M x).isSome || zil T M y):=by
 unfold zil;rw[za0 h hp];rfl
theorem LIf.dirty(hD:DOk D)(h:LIf D p)(x:Int):zil p.T p.M x=decide (x∈zah D):=by
 rw[Bool.eq_iff_iff,decide_eq_true_eq,zbk hD.wf];unfold zil;rw[Bool.or_eq_true,any_eq_true];constructor
 ·rintro (q | ⟨y,hy,q⟩)
  ·exact⟨x,(h.mark_dirty x).1 q,.inl rfl⟩
  ·exact⟨y,(h.mark_dirty y).1 q,.inr ((h.abvs hD ((h.mrk y).1 q).1).1 hy)⟩
 ·rintro⟨y,hy,rfl | q⟩
  ·exact .inl ((h.mark_dirty x).2 hy)
  ·have hm:=(h.mark_dirty y).2 hy;exact .inr ⟨y,(h.abvs hD ((h.mrk y).1 hm).1).2 q,hm⟩
end
def zcR(L:List Nd)(O:List Int)(S:Int->Option RD)(j:Nat)(x:Int):Option RD:=if x∈O then (if x∈O.take j then stv L x else none) else S x
theorem zss(L:List Nd)(O:List Int)(S:Int->Option RD):mkS S O=zcR L O S 0:=by
 funext x;unfold mkS zcR;simp
def zdq(L:List Nd)(P:List Int)(least e:Int):Prop:=(e=0/\∀x∈P,(zb2 L x).2=0)∨(least∈P/\(zb2 L least).2=e/\e≠0/\∀x∈P,(zb2 L x).2≠0->least<=x)
theorem zst{least:Int}(h:zdq L P least e)(hx:(zb2 L x).2=0):zdq L (P++[x]) least e:=by
 rcases h with ⟨h2,h3⟩ | ⟨h1,h2,h3,h4⟩
 ·refine .inl ⟨h2,λz hz=> ?_⟩;rcases mem_append.1 hz with q | q
  ·exact h3 z q
  ·rw[mem_singleton.1 q];exact hx
 ·refine .inr ⟨mem_append_left _ h1,h2,h3,λz hz hf=> ?_⟩;rcases mem_append.1 hz with q | q
  ·exact h4 z q hf
  ·rw[mem_singleton.1 q]at hf;exact absurd hx hf
theorem zim{least e':Int}(h:zdq L P least e)(hx:(zb2 L x).2=e')(he:e'≠0)(hc:e=0∨x<least):zdq L (P++[x]) x e':=by
 refine .inr ⟨mem_append_right _ (mem_singleton.2 rfl),hx,he,λz hz hf=> ?_⟩;rcases mem_append.1 hz with q | q
 ·rcases h with ⟨h2,h3⟩ | ⟨h1,h2,h3,h4⟩
  ·exact absurd (h3 z q) hf
  ·have:=h4 z q hf;rcases hc with c | c
   ·exact absurd c h3
   ·omega
 ·rw[mem_singleton.1 q];exact Int.le_refl _
theorem zpf{least:Int}(h:zdq L P least e)(he:e≠0)(hc:¬x<least):zdq L (P++[x]) least e:=by
 rcases h with ⟨h2,h3⟩ | ⟨h1,h2,h3,h4⟩
 ·exact absurd h2 he
 ·refine .inr ⟨mem_append_left _ h1,h2,h3,λz hz hf=> ?_⟩;rcases mem_append.1 hz with q | q
  ·exact h4 z q hf
  ·rw[mem_singleton.1 q];omega
section
variable {D:FD} {p:Wp}
theorem DOk.still(hD:DOk D){x:Int}(hx:x∉zah D):(zb2 D.L x).2=0:=by
 cases e:elF Nd.id D.L x with
 | none=>rw[zev e]
 | some n=>
  by_cases hb:D.begun=true
  ·obtain⟨s,hs,_⟩:=hD.st hb x (by rw[e];rfl) hx;rw[hs]
  ·refine absurd ((zbk hD.wf).2 ⟨x,?_,.inl rfl⟩) hx;unfold zbU;rw[if_neg hb,zbg,e];rfl
theorem zsu(hD:DOk D){least e:Int}(h:zdq D.L (zah D) least e):e=zeC D:=by
 have ha:=zeW hD.nod hD.wf hD.nn;have hin:∀x,(zb2 D.L x).2≠0->x∈zah D/\x∈zbq D.L:=λx hx=>by
  refine⟨?_,?_⟩
  ·by_cases c:x∈zah D
   ·exact c
   ·exact absurd (hD.still c) hx
  ·rw[zdh hD.wf]
   cases e:elF Nd.id D.L x with
   | some n=>rfl
   | none=>rw[zev e]at hx;exact absurd rfl hx
 show e=(ziM D.L).e;rcases h with ⟨h2,h3⟩ | ⟨h1,h2,h3,h4⟩
 ·rcases ha with ⟨_,a2,_⟩ | ⟨a1,a2,a3,_⟩
  ·rw[h2,a2]
  ·have hf:(zb2 D.L (ziM D.L).least).2≠0:=by rw[a2];exact a3
   exact absurd (h3 _ (hin _ hf).1) hf
 ·have dj:(zb2 D.L least).2≠0:=by rw[h2];exact h3
  rcases ha with ⟨_,a2,a3⟩ | ⟨a1,a2,a3,a4⟩
  ·exact absurd (a3 _ (hin _ dj).2) dj
  ·have CR:(zb2 D.L (ziM D.L).least).2≠0:=by rw[a2];exact a3
   have k1:=a4 _ (hin _ dj).2 dj;have k2:=h4 _ (hin _ CR).1 CR;have:least=(ziM D.L).least:=om;rw[<-h2,<-a2,this]
theorem zxW(Hp:∀n∈L,okM n.pl=true):∀ {l:List Int} {x:Int} {s:Stt},(zdi L l x).1=some s->okM s.wo=true
 | [],x,s,h=>by
  unfold zdi at h
  cases e:elF Nd.id L x with
  | none=>rw[e]at h;cases h
  | some n=>
   rw[e]at h;injection h with h;rw[<-h];exact Hp n (zb1 e).2
 | y::l,x,s,h=>by
  unfold zdi at h
  cases e:elF Nd.id L x with
  | none=>rw[e]at h;cases h
  | some n=>
   rw[e]at h
   cases q:(zdi L l y).1 with
   | none=>simp only[q]at h;cases h
   | some u=>
    simp only[q]at h
    by_cases c:16<l.length+2
    ·rw[if_pos c]at h;cases h
    ·rw[if_neg c]at h
     by_cases d:zaG u.wo n.pl=0
     ·rw[if_pos d]at h;injection h with h;rw[<-h];exact zsY _ _
     ·rw[if_neg d]at h;cases h
theorem zzq(hD:DOk D){x:Int}{u:RD}(h:stv D.L x=some u):okM u.1.wo=true/\u.2=(abv (zaj D.L) x).length+1:=by
 unfold stv at h
 cases q:(zb2 D.L x).1 with
 | none=>rw[q]at h;cases h
 | some s=>
  rw[q]at h;injection h with h;rw[<-h];exact⟨zxW hD.ok q,rfl⟩
theorem LIf.reach(hD:DOk D)(h:LIf D p){j:Nat}{x:Int}(hx:(zah D)[j]? =some x):
  ∃nd,p.N x=some nd/\okM nd.1=true/\(∀u,zcR D.L (zah D) p.S j (zcg p.T x)=some u->okM u.1.wo=true/\u.2<=D.L.length+1)/\
   zn0 nd (p.N (zcg p.T x)).isSome (zcR D.L (zah D) p.S j (zcg p.T x)) x=(stv D.L x,(zb2 D.L x).2)/\zxS (zcR D.L (zah D) p.S j) x (stv D.L x)=zcR D.L (zah D) p.S (j+1):=by
 have vC:=mem_of_getElem? hx;have qv:=zbo hD.wf vC;obtain⟨n,en⟩:=Option.isSome_iff_exists.1 qv;have hid:=(zb1 en).1;have hst:∀y,(elF Nd.id D.L y).isSome=true->y∉zah D->p.S y=stv D.L y:=λy hy nV=>by
  by_cases hb:D.begun=true
  ·exact h.sts hb y hy nV
  ·refine absurd ((zbk hD.wf).2 ⟨y,?_,.inl rfl⟩) nV;unfold zbU;rw[if_neg hb];exact zbg.2 hy
 have tq:∀y,elF Nd.id D.L y=none->zcR D.L (zah D) p.S j y=none:=λy hy=>by
  unfold zcR;rw[if_neg (λc=>by have:=zbo hD.wf c;rw[hy]at this;cases this)];exact h.non y hy
 have kh:∀y,(abv (zaj D.L) y).length<=D.L.length:=λy=>Nat.le_trans (zlC hD.wf y) (zj2 _);have tu:∀y u,zcR D.L (zah D) p.S j y=some u->okM u.1.wo=true/\u.2<=D.L.length+1:=λy u hu=>by
  have jl:(elF Nd.id D.L y).isSome=true:=by
   cases e:elF Nd.id D.L y with
   | some n=>rfl
   | none=>rw[tq y e]at hu;cases hu
  have hs:stv D.L y=some u:=by
   unfold zcR at hu
   by_cases c:y∈zah D
   ·rw[if_pos c]at hu
    by_cases d:y∈(zah D).take j
    ·rw[if_pos d]at hu;exact hu
    ·rw[if_neg d]at hu;cases hu
   ·rw[if_neg c]at hu;rw[<-hst y jl c];exact hu
  obtain⟨k1,k2⟩:=zzq hD hs;have:=kh y;exact⟨k1,om⟩
 have J7:x∉(zah D).take j:=ztK (ziV hD.wf _) hx;have vD:zxS (zcR D.L (zah D) p.S j) x (stv D.L x)=zcR D.L (zah D) p.S (j+1):=by
  have key:∀y,zcR D.L (zah D) p.S (j+1) y=if y=x then stv D.L x else zcR D.L (zah D) p.S j y:=λy=>by
   unfold zcR;rw[take_add_one,hx]
   by_cases c:y=x
   ·rw[if_pos c,c,if_pos vC,if_pos (by simp)]
   ·rw[if_neg c]
    by_cases d:y∈zah D
    ·rw[if_pos d,if_pos d]
     by_cases f:y∈(zah D).take j
     ·rw[if_pos f,if_pos (mem_append_left _ f)]
     ·rw[if_neg f,if_neg (λk=>(mem_append.1 k).elim f (λk=>c (by simpa using k)))]
    ·rw[if_neg d,if_neg d]
  funext y;rw[key]
  cases q:stv D.L x with
  | none=>
   show zcR D.L (zah D) p.S j y=_
   by_cases c:y=x
   ·rw[if_pos c,c];unfold zcR;rw[if_pos vC,if_neg J7]
   ·rw[if_neg c]
  | some v=>rfl
 refine⟨(n.pl,n.hid),by rw[h.nod,en];rfl,hD.ok n (zb1 en).2,λu hu=>tu _ u hu,?_,vD⟩;have zP:zcg p.T x=if 0<=n.par then n.par else -1:=by
  unfold zcg;rw[h.par,zdA hD.nod en]
  by_cases c:0<=n.par
  ·rw[if_pos c,if_pos c];rfl
  ·rw[if_neg c,if_neg c];rfl
 have tw:elF Nd.id D.L (-1)=none:=zcZ.2 (λm hm e=>by have:=hD.nn m hm;omega);rw[h.nodS]
 by_cases ht:(elF Nd.id D.L (zcg p.T x)).isSome=true
 ·have c:0<=n.par:=by
   by_cases c:0<=n.par
   ·exact c
   ·rw[zP,if_neg c,tw]at ht;cases ht
  rw[if_pos c]at zP;rw[zP]at ht ⊢;have hh:zap D.L x=n.par:=by rw[zbn en,if_neg (λq=>q.elim (λq=>om) (λq=>zd9.1 q ht))]
  have hp:zak (zaj D.L) x=some n.par:=by rw[zau hD.nod,hh,if_pos c]
  have V7:zcR D.L (zah D) p.S j n.par=stv D.L n.par:=by
   unfold zcR;have q0:n.par∈(zah D).take j∨n.par∉zah D:=zvs hD.wf hx hp;rcases q0 with q | q
   ·rw[if_pos (mem_of_mem_take q),if_pos q]
   ·rw[if_neg q];exact hst _ ht q
  have hf:=zlT hD.nod hD.wf en om;rw[hh]at hf;have hab:(abv (zaj D.L) x).length=(abv (zaj D.L) n.par).length+1:=by rw[za0 hD.wf hp,length_cons]
  rw[V7,ht];unfold zn0;rw[if_neg (by simp)]
  cases q:(zb2 D.L n.par).1 with
  | none=>
   rw[q]at hf;have e1:stv D.L n.par=none:=by unfold stv;rw[q];rfl
   have e2:stv D.L x=none:=by unfold stv;rw[hf];rfl
   rw[e1,e2,hf]
  | some s=>
   rw[q]at hf;simp only at hf;have e1:stv D.L n.par=some (s,(abv (zaj D.L) n.par).length+1):=by unfold stv;rw[q];rfl
   rw[e1];show (if 16<=(abv (zaj D.L) n.par).length+1 then _ else _)=_
   by_cases d:16<=(abv (zaj D.L) n.par).length+1
   ·rw[if_pos d];rw[if_pos om]at hf;have e2:stv D.L x=none:=by unfold stv;rw[hf];rfl
    rw[e2,hf]
   ·rw[if_neg d];rw[if_neg om]at hf
    by_cases z:zaG s.wo n.pl=0
    ·rw[if_pos z]at hf ⊢;have e2:stv D.L x=some (⟨n.id,zbB s.wo n.pl,s.sh && !n.hid⟩,(abv (zaj D.L) x).length+1):=by unfold stv;rw[hf];rfl
     rw[e2,hf,hid,hab]
    ·rw[if_neg z]at hf ⊢;have e2:stv D.L x=none:=by unfold stv;rw[hf];rfl
     rw[e2,hf]
 ·have hh:zap D.L x<0:=by
   rw[zbn en]
   by_cases c:n.par<0
   ·rw[if_pos (.inl c)];omega
   ·rw[zP,if_pos om]at ht;rw[if_pos (.inr (zd9.2 ht))];omega
  have hf:=zhb hD.nod hD.wf en hh;have hp:zak (zaj D.L) x=none:=by rw[zau hD.nod,if_neg om]
  have e2:stv D.L x=some (⟨n.id,n.pl,!n.hid⟩,1):=by unfold stv;rw[hf,zeP hD.wf hp];rfl
  have e3:(elF Nd.id D.L (zcg p.T x)).isSome=false:=by cases q:(elF Nd.id D.L (zcg p.T x)).isSome with | false=>rfl | true=>exact absurd q ht
  rw[e3,e2,hf];unfold zn0;rw[if_pos rfl,hid]
end
end Go.Proofs.YtlibdcmcbinfnaaGreat
