/- Lemmas. -/
import Derived.Test.YtlibdcmcbinfnaaGreatMS41
set_option maxHeartbeats 100000000
set_option maxRecDepth 1000000
namespace Go.Proofs.YtlibdcmcbinfnaaGreat
open _root_.Go.Proofs.Tryz List Nat
open Go.RowKit
structure BX (X:List Value):Prop where
 len:X.length=13
 sizea:(prog.info? 215).map (·.size)=some X.toArray.size
 onea:X.toArray.all (·.oneCell')=true
structure RX (X:List Value):Prop where
 len:X.length=14
 sizea:(prog.info? 299).map (·.size)=some X.toArray.size
 onea:X.toArray.all (·.oneCell')=true
theorem zxH(p:BD):∀u∈cBd p,u.oneCell'=true:=λu hu=>by
 rw[zvF]at hu;rcases mem_append.1 hu with h | h
 ·exact zm4 _ u h
 ·rw[mem_singleton.1 h];rfl
theorem zxI(p:RD):∀u∈cSd p,u.oneCell'=true:=λu hu=>by
 rw[zvG]at hu;rcases mem_append.1 hu with h | h
 ·exact zm4 _ u h
 ·rcases mem_cons.1 h with h | h
  ·rw[h];rfl
  ·rw[mem_singleton.1 h];rfl
theorem zvH(p:BD):BX (cBd p):=⟨rfl,oM,all_oneCell_toArray (zxH p)⟩
theorem zvI(p:RD):RX (cSd p):=⟨rfl,oM,all_oneCell_toArray (zxI p)⟩
def zcf(T:FT)(x:Int):Int:=(zak T x).getD (-1)
section
variable {w:World} {p:Wp} {x:Int}
theorem zkP(h:LW w p)(hx:Rg x):Calls prog 119 #[.pointer (some ⟨p.g,0,none⟩),.int .i64 x] w λe w'=>e= .returned (.bool (p.N x).isSome)/\Bw w w':=by
 obtain⟨c0,c1,c2,c3,c4,hg⟩:=h.cells;have hl:(Instr.lookup 197 (.map (some p.gn)) (.int .i64 x) true).run prog w= .ok (.tuple #[.agg (cBd ((p.N x).getD zB)).toArray,.bool (p.N x).isSome]) w:=h.nod.look hx;have HX:=kA (zvH ((p.N x).getD zB));obtain⟨X,hX⟩:∃X,X=cBd ((p.N x).getD zB):=⟨_,rfl⟩;obtain⟨b,hb⟩:∃b,b=(p.N x).isSome:=⟨_,rfl⟩;obtain⟨g,hge⟩:∃g,g=p.g:=⟨_,rfl⟩;obtain⟨gn,Ho⟩:∃gn,gn=p.gn:=⟨_,rfl⟩;rw[<-hX]at hl HX;rw[<-hb]at hl ⊢;rw[<-Ho]at hl c1;rw[<-hge]at c1 hg ⊢;have HT:Hid ((w.alloc (.cells (cBd zB).toArray 215)).there w.heap.size 0 X.toArray.size):=kA (zae (Blk.new w _ _) (by rw[size_toArray,HX.len];exact Nat.le_refl 13));clear h hX hb hge Ho c0 c2 c3 c4;go_enter func119,ntmps119;go_wp2_with (refine wpList_store_mid rfl 215 (.tmp 5) (.tmp 14) rfl w.heap.size 0 X.toArray rfl rfl HT HX.sizea HX.onea ?_);refine fin (λW=>Bw w W) (zab _ (zaa _ _) (Nat.le_refl _)) ?_;rintro W Cb;have HB:=kA Cb;clear Cb;go_wp2;go_ret;exact⟨rfl,HB⟩
theorem zfS(h:LW w p)(hx:Rg x):Calls prog 191 #[.pointer (some ⟨p.g,0,none⟩),.int .i64 x] w λe w'=>e= .returned (.int .i64 (zcf p.T x))/\w=w':=by
 obtain⟨c0,c1,c2,c3,c4,hg⟩:=h.cells
 have HP:Hid (Calls prog 251 #[.pointer (some ⟨p.gf,0,none⟩),.int .i64 x] w λe w'=>e= .returned (.tuple #[.int .i64 (zjr (zak p.T x)),.bool (zak p.T x).isSome])/\w=w'):=kA (by
  obtain⟨gp,gc,bl,cp,h1,_⟩:=h.fo
  exact zep h1 hx)
 have hM:zcf p.T x=(zak p.T x).getD (-1):=rfl;obtain⟨o,ho⟩:∃o,o=zak p.T x:=⟨_,rfl⟩;obtain⟨g,hge⟩:∃g,g=p.g:=⟨_,rfl⟩;obtain⟨gf,Xb⟩:∃gf,gf=p.gf:=⟨_,rfl⟩;rw[<-ho]at HP hM;rw[<-Xb]at HP c0;rw[<-hge]at c0 hg ⊢;rw[hM];clear h ho hge Xb hM c1 c2 c3 c4 hx;go_enter func191,ntmps191;go_wp2_with fail;refine HP.mono ?_;rintro e w1 ⟨rfl,rfl⟩
 cases o with
 | none=>
  go_wp2;go_ret;exact⟨rfl,rfl⟩
 | some y=>
  go_wp2;go_ret;exact⟨rfl,rfl⟩
theorem zmm(h:LW w p)(K:List Int)(hK:K.Pairwise (·<·))(hm:∀z,z∈K↔Rg z/\(p.N z).isSome=true):Calls prog 132 #[.pointer (some ⟨p.g,0,none⟩)] w λe w'=>∃v,e= .returned v/\OwnD w' w.heap.size v K.length K/\Bw w w':=by
 obtain⟨c0,c1,c2,c3,c4,hg⟩:=h.cells;have C6:=kA (zzf (some p.gn) w);have dx:=kA (zuM h.nod K hK hm);clear h hK hm;go_enter func132,ntmps132;go_wp2_with fail;refine C6.mono ?_;rintro e w0 ⟨rfl,rfl⟩;go_wp2_with fail;refine dx.mono ?_;rintro e w1 ⟨v,rfl,Hd,kj⟩;have HE:=kA (And.intro Hd kj);clear Hd kj C6 dx;go_wp2;go_ret;exact⟨v,rfl,HE⟩
end
def mkS(S:Int->Option RD)(xs:List Int)(x:Int):Option RD:=if x∈xs then none else S x
def mkM(M:Int->Option Unit)(xs:List Int)(x:Int):Option Unit:=if x∈xs then some () else M x
variable{xs:List Int}{j:Nat}{z:Int}{w:World}{a:Go.Act}{ops:Array Oper}{op:Oper}
theorem znT{S:Int->Option RD}(h:xs[j]? =some z):mkS S (xs.take (j+1))=upm (mkS S (xs.take j)) z none:=by
 funext y;unfold mkS upm;rw[take_add_one,h]
 by_cases c:y=z
 ·rw[if_pos c,if_pos (by rw[c];simp)]
 ·rw[if_neg c];show _=if y∈xs.take j then none else S y
  by_cases d:y∈xs.take j
  ·rw[if_pos d,if_pos (mem_append_left _ d)]
  ·rw[if_neg d,if_neg (λk=>(mem_append.1 k).elim d (λk=>c (by simpa using k)))]
theorem zuO{M:Int->Option Unit}(h:xs[j]? =some z):mkM M (xs.take (j+1))=upm (mkM M (xs.take j)) z (some ()):=by
 funext y;unfold mkM upm;rw[take_add_one,h]
 by_cases c:y=z
 ·rw[if_pos c,if_pos (by rw[c];simp)]
 ·rw[if_neg c];show _=if y∈xs.take j then some () else M y
  by_cases d:y∈xs.take j
  ·rw[if_pos d,if_pos (mem_append_left _ d)]
  ·rw[if_neg d,if_neg (λk=>(mem_append.1 k).elim d (λk=>c (by simpa using k)))]
def mkP(p:Wp)(xs:List Int):Wp:={ p with S:=mkS p.S xs,M:=mkM p.M xs }
theorem zxJ(p:Wp):mkP p []=p:=by
 unfold mkP;have h1:mkS p.S []=p.S:=by funext x;unfold mkS;rw[if_neg (by simp)]
 have h2:mkM p.M []=p.M:=by funext x;unfold mkM;rw[if_neg (by simp)]
 rw[h1,h2]
theorem LW.mark1{wr:World}{p:Wp}(Hg:ChL w wr p (mkP p (xs.take j)))(hz:xs[j]? =some z)(hx:Rg z)(K:List Int)(hK:∀y,(p.M y).isSome=true->y∈K)(XH:K.length+xs.length<=100000):
  ∃w1 w2,(∀ty,(Builtin.delete_ #[198,81] ty #[.map (some p.gs),.int .i64 z]).run prog wr= .ok (.tuple #[]) w1)/\w1.cell? ⟨p.g,3,none⟩=some (.map (some p.gm))/\p.g<w1.heap.size/\(Instr.mapUpdate 199 (.map (some p.gm)) (.int .i64 z) (.agg #[])).run prog w1= .ok () w2/\ChL w w2 p (mkP p (xs.take (j+1))):=by
 obtain⟨w1,r1,m1,g1⟩:=Hg.1.sts.del hx;have k1:=Hg.1.setS m1 g1
 obtain⟨w2,r2,m2,g2⟩:=k1.1.mrk.put hx () (K++xs) (λy hy=>by
  unfold upm at hy
  by_cases c:y=z
  ·rw[c];exact mem_append_right _ (mem_of_getElem? hz)
  ·rw[if_neg c]at hy;have Dv:(mkM p.M (xs.take j) y).isSome=true:=hy;unfold mkM at Dv
   by_cases d:y∈xs.take j
   ·exact mem_append_right _ (mem_of_mem_take d)
   ·rw[if_neg d]at Dv
    exact mem_append_left _ (hK y Dv)) (by rw[length_append];exact XH)
 have k2:=k1.1.setM m2 g2;obtain⟨_,_,_,c3,_,hg⟩:=k1.1.cells;refine⟨w1,w2,r1,c3,hg,r2,?_⟩;have:=(Hg.join k1).join k2;unfold mkP;rw[znT hz,zuO hz];exact this
theorem zfC{p:Wp}(h:LW w p){a:Option Addr}{n cap:Nat}{xs:List Int}(hn:n<=20000)(hr:Row w a n xs)(ha:Aw (zba p) a n)(hx:Rgs xs)(K:List Int)(hK:∀y,(p.M y).isSome=true->y∈K)(XH:K.length<=70000):
  Calls prog 120 #[.pointer (some ⟨p.g,0,none⟩),.slice a n cap] w λe w'=>e= .returned (.tuple #[])/\ChL w w' p (mkP p xs):=by
 have Hu:Hid (ChL w w p (mkP p (xs.take 0))):=kA (by rw[take_zero,zxJ];exact ChL.still h (Below.refl _ _));have Kb:=kA hr.1;have dS:Hid (∀ (u:World) (j:Nat),ChL w u p (mkP p (xs.take j))->Row u a n xs/\u.cell? ⟨p.g,2,none⟩=some (.map (some p.gs))/\p.g<u.heap.size):=kA (λu j q=>⟨zbI hr ha q.2.1,q.1.cells.2.2.1,q.1.cells.2.2.2.2.2⟩);have HM:Hid (∀ (u:World) (j:Nat) (z:Int),xs[j]? =some z->ChL w u p (mkP p (xs.take j))->∃w1 w2,(∀ty,(Builtin.delete_ #[198,81] ty #[.map (some p.gs),.int .i64 z]).run prog u= .ok (.tuple #[]) w1)/\w1.cell? ⟨p.g,3,none⟩=some (.map (some p.gm))/\p.g<w1.heap.size/\(Instr.mapUpdate 199 (.map (some p.gm)) (.int .i64 z) (.agg #[])).run prog w1= .ok () w2/\ChL w w2 p (mkP p (xs.take (j+1)))):=kA (λu j z hz q=>LW.mark1 q hz (hx z (mem_of_getElem? hz)) K hK (by rw[hr.1];omega));have Hy:=hr.2.1;obtain⟨g,hge⟩:∃g,g=p.g:=⟨_,rfl⟩;rw[<-hge]at dS HM ⊢;clear h hr ha hx hK XH hge;go_enter func120,ntmps120;go_wp2
 go_loopw [5,8] (λ_ i wr=>∃j:Nat,j<=n/\i= .int .i64 j/\ChL w wr p (mkP p (xs.take j))) (λ_ i _=>n - (ivl i).toNat)
 case atStart=>exact⟨0,om,rfl,Hu⟩
 case round=>
  clear Hu;obtain⟨j,hj,rfl,Hg⟩:=hrel;obtain⟨kO,c2,hg⟩:=dS.out wr j Hg;have Hw:=kA Hg;clear Hg
  by_cases hlt:j<n
  ·obtain⟨b,off,z,rfl,hz,cz⟩:=zch kO hlt;have Ht:=World.block_lt_of_cell? _ _ cz;obtain⟨w1,w2,r1,c13,DT,r2,dG⟩:=HM.out wr j z hz Hw;have Kp:=kA dG;have j0:(0:Int)<=(j:Int):=om;have j1:(j:Int)<(n:Int):=om;clear kO hz dG Hw;go_wp2_with (at_builtin;refine za9 rfl (.tmp 15) (.tmp 16) 198 81 rfl _ _ rfl rfl (r1 _) ?_);go_roundw
   case rel=>exact⟨j+1,om,by go_num,Kp⟩
   case measure=>simp[ivl] <;> omega
  ·obtain rfl:j=n:=om;have e0:xs.take j=xs:=take_of_length_le (by rw[Kb.out];exact Nat.le_refl _);rw[e0]at Hw;have j1:¬(j:Int)<(j:Int):=om;clear e0 kO;go_wp2;go_end0;exact⟨rfl,Hw⟩
def znU(nd:BD)(ho:Bool)(ou:Option RD)(x:Int):Option RD × Int:=if ho=false then (some (⟨x,nd.1,!nd.2⟩,1),0) else match ou with
 | none=>(none,0)
 | some u=>if 16<=u.2 then (none,7) else if zaE u.1.wo nd.1=0 then (some (⟨x,zbB u.1.wo nd.1,u.1.sh && !nd.2⟩,u.2+1),0) else (none,zaE u.1.wo nd.1)
def zxK(S:Int->Option RD)(x:Int)(o:Option RD):Int->Option RD:=match o with
 | some v=>upm S x (some v)
 | none=>S
theorem zo8{rest:List Oper}{Q:Exit->Go.Act->World->Prop}(kX:op.guard=none)(t e:TypeId)(x y:Operand)(ho:op.op= .buildSlice t 2 #[(0,x),(1,y)])(X Y Z:List Value)(hx:a.eval x= .agg X.toArray)(hy:a.eval y= .agg Y.toArray)
  (Hi:∀W,(Instr.buildSlice t 2 #[(0,.agg X.toArray),(1,.agg Y.toArray)]).run prog W= .ok (.slice (some ⟨W.heap.size,0,none⟩) 2 2) (W.alloc (.cells Z.toArray e)))
  (h:wpList prog ops Q rest (a.put op.dst (.slice (some ⟨w.heap.size,0,none⟩) 2 2)) (w.alloc (.cells Z.toArray e))):wpList prog ops Q (op::rest) a w:=
 wpList_plain kX λK hK=>by
  have h2:=hK _ _ h;unfold Oper.wp execOp;simp only[ho];simp[hx,hy,Hi];exact h2
theorem zbx{S:World->Prop}(hw:Region.wanted op (yielded ops a.tmps)=true)(t:TypeId)(x y:Operand)(ho:op.op= .build t #[(0,x),(1,y)])(vx vy vr:Value)(hx:a.eval x=vx)(hy:a.eval y=vy)
  (Hi:∀W,(Instr.build t #[(0,vx),(1,vy)]).run prog W= .ok vr W):YieldsIf prog ops S op vr a:=
 .inl ⟨hw,λw _=>by
  unfold execOp;simp only[ho]
  simp[hx,hy,Hi]⟩
def wS(p:Wp)(S':Int->Option RD):Wp:={ p with S:=S' }
theorem zxL(A B:Nat->Int)(W:World):(Instr.buildSlice 326 2 #[(0,.agg (lM A).toArray),(1,.agg (lM B).toArray)]).run prog W= .ok (.slice (some ⟨W.heap.size,0,none⟩) 2 2) (W.alloc (.cells (lM A++lM B).toArray 46)):=oM
theorem zkQ(M:Nat->Int)(b:Bool)(W:World):(Instr.build 228 #[(0,.agg (lM M).toArray),(1,.bool b)]).run prog W= .ok (.agg (lM M++[Value.bool b]).toArray) W:=oM
theorem zhq(M:Nat->Int)(b:Bool)(d:Int)(W:World):(Instr.build 299 #[(0,.agg (lM M++[Value.bool b]).toArray),(1,.int .i64 d)]).run prog W= .ok (.agg (lM M++[Value.bool b,Value.int .i64 d]).toArray) W:=oM
theorem zsm{A B:Nat->Int}(ha:okM A=true)(hb:okM B=true):zdC [A,B]=(if zaE A B=0 then zbB A B else zdG,zaE A B):=by
 have h:zbG [A,B]=true:=by unfold zbG;simp[ha,hb]
 rw[zhM h];unfold zcy
 by_cases c:zaE A B=0
 ·rw[if_pos c,if_pos c,c];rfl
 ·rw[if_neg c,if_neg c]
theorem zuP(A B:Nat->Int)(ha:okM A=true)(hb:okM B=true)(w:World)(g:Nat)(k:Blk w g 46 (lM A++lM B).toArray):
  Calls prog 254 #[.slice (some ⟨g,0,none⟩) 2 2] w λe w'=>e= .returned (.tuple #[.agg (lM (if zaE A B=0 then zbB A B else zdG)).toArray,.int .i64 (zaE A B)])/\Bw w w':=by
 have row:=zzG (A:=A) (B:=B) k;refine (zsT _ 2 2 [A,B] w row om om).mono ?_;rintro e w' ⟨rfl,Kh⟩;rw[zsm ha hb];exact⟨rfl,Kh⟩
section
variable {w:World} {p:Wp} {x:Int}
theorem zmn(h:LW w p)(hx:Rg x)(nd:BD)(hN:p.N x=some nd)(H8:okM nd.1=true)(hu:Rg (zcf p.T x))(hS:∀u,p.S (zcf p.T x)=some u->okM u.1.wo=true/\u.2<=1000)(K:List Int)(hK:∀y,(p.S y).isSome=true->y∈K)(XH:K.length<=90000):
  Calls prog 200 #[.pointer (some ⟨p.g,0,none⟩),.int .i64 x] w λe w'=>e= .returned (.int .i64 (znU nd (p.N (zcf p.T x)).isSome (p.S (zcf p.T x)) x).2)/\ChL w w' p (wS p (zxK p.S x (znU nd (p.N (zcf p.T x)).isSome (p.S (zcf p.T x)) x).1)):=by
 have Hu:Hid (∀u,Bw w u->ChL w u p p):=kA (λu q=>ChL.still h q)
 have zw:Hid (∀u,Bw w u->u.cell? ⟨p.g,1,none⟩=some (.map (some p.gn))/\(Instr.lookup 197 (.map (some p.gn)) (.int .i64 x) false).run prog u= .ok (.agg (cBd nd).toArray) u):=kA (λu q=>⟨(h.keep q).cells.2.1,by
  have:=(h.keep q).nod.get hx;rw[hN]at this
  exact this⟩)
 have Do:Hid (∀u,Bw w u->Calls prog 191 #[.pointer (some ⟨p.g,0,none⟩),.int .i64 x] u λe w'=>e= .returned (.int .i64 (zcf p.T x))/\u=w'):=kA (λu q=>zfS (h.keep q) hx);have Q4:Hid (∀u,Bw w u->Calls prog 119 #[.pointer (some ⟨p.g,0,none⟩),.int .i64 (zcf p.T x)] u λe w'=>e= .returned (.bool (p.N (zcf p.T x)).isSome)/\Bw u w'):=kA (λu q=>zkP (h.keep q) hu);have DJ:Hid (∀u,Bw w u->u.cell? ⟨p.g,2,none⟩=some (.map (some p.gs))/\p.g<u.heap.size/\(Instr.lookup 198 (.map (some p.gs)) (.int .i64 (zcf p.T x)) true).run prog u= .ok (.tuple #[.agg (cSd ((p.S (zcf p.T x)).getD zRf)).toArray,.bool (p.S (zcf p.T x)).isSome]) u):=kA (λu q=>⟨(h.keep q).cells.2.2.1,(h.keep q).cells.2.2.2.2.2,(h.keep q).sts.look hu⟩)
 have kV:Hid (∀u (v:RD),Bw w u->∃w2,(Instr.mapUpdate 198 (.map (some p.gs)) (.int .i64 x) (.agg (cSd v).toArray)).run prog u= .ok () w2/\ChL w w2 p (wS p (upm p.S x (some v)))/\(∀b,w.heap.size<=b->b<u.heap.size->w2.heap[b]? =u.heap[b]?)/\w2.cell? ⟨p.g,2,none⟩=some (.map (some p.gs))):=kA (λu v q=>by
  obtain⟨w2,r2,m2,g2⟩:=(h.keep q).sts.put hx v (x::K) (λy hy=>by
   unfold upm at hy
   by_cases c:y=x
   ·rw[c];exact mem_cons_self
   ·rw[if_neg c]at hy
    exact mem_cons_of_mem _ (hK y hy)) (by rw[length_cons];omega)
  exact⟨w2,r2,(ChL.still h q).join ((h.keep q).setS m2 g2),λb hb hl=>g2.block b hl (λe=>by have:=h.sts.lt;injection e with e;omega),((h.keep q).setS m2 g2).1.cells.2.2.1⟩)
 have zz:=kA (zvH nd);have DX:Hid (∀W gg,Blk W gg 215 (cBd nd).toArray->W.rangeAt gg 0 (lM nd.1)/\W.cell? ⟨gg,12,none⟩=some (.bool nd.2)):=kA (λW gg k=>⟨zaF k 0 12,k.cell 12⟩);obtain⟨XB,Yh⟩:∃XB,XB=cBd nd:=⟨_,rfl⟩;obtain⟨MB,sC⟩:∃MB,MB=lM nd.1:=⟨_,rfl⟩;obtain⟨up,xj⟩:∃up,up=zcf p.T x:=⟨_,rfl⟩;obtain⟨ho,tL⟩:∃ho,ho=(p.N up).isSome:=⟨_,rfl⟩;obtain⟨ou,tM⟩:∃ou,ou=p.S up:=⟨_,rfl⟩;have sD:=kA (zjX nd.1);rw[<-Yh]at zw zz DX;rw[<-sC]at DX sD;rw[<-xj]at Do Q4 DJ hS ⊢;rw[<-tL]at Q4 ⊢;rw[<-tM]at DJ hS ⊢;have dx:=kA hS;have dJ:=kA H8;have zA:=kA sC;obtain⟨g,hge⟩:∃g,g=p.g:=⟨_,rfl⟩;obtain⟨gn,Ho⟩:∃gn,gn=p.gn:=⟨_,rfl⟩;obtain⟨gs,xl⟩:∃gs,gs=p.gs:=⟨_,rfl⟩;rw[<-hge]at zw Do Q4 DJ kV ⊢;rw[<-Ho]at zw;rw[<-xl]at DJ kV;have CA:=kA (zw _ (zaw w));have Hf:Bw w (w.drew.alloc (.cells (cBd zB).toArray 215)):=zad (zaw w) (zaa _ _);have CB:=kA (zw _ Hf);have ki:Hid ((w.drew.alloc (.cells (cBd zB).toArray 215)).there w.heap.size 0 XB.toArray.size):=kA (zae (Blk.new w.drew _ _) (by rw[size_toArray,zz.len];exact Nat.le_refl 13));have H9:Bw w ((w.drew.alloc (.cells (cBd zB).toArray 215)).setCells w.heap.size 0 XB):=zab XB Hf (Nat.le_refl _);have CC:=kA (zw _ H9);have sE:Hid (Blk ((w.drew.alloc (.cells (cBd zB).toArray 215)).setCells w.heap.size 0 XB) w.heap.size 215 XB.toArray/\Bw w ((w.drew.alloc (.cells (cBd zB).toArray 215)).setCells w.heap.size 0 XB)/\w.heap.size<=w.heap.size):=kA ⟨zal (Blk.new w.drew _ _) (by rw[zz.len];rfl),H9,Nat.le_refl _⟩;have hg:=(DJ _ (Below.refl _ _)).2.1;clear h hN H8 hu hS hK XH Yh sC xj tL tM hge Ho xl hx H9;go_enter func200,ntmps200;go_upto_region 1 with fail;refine zwO (λgx f=>{ tmps:= #[.pointer (some ⟨g,0,none⟩),.int .i64 x,undef,undef,.int .i64 0,.pointer (some ⟨gx,0,none⟩),.int .i64 up,undef,undef,undef,undef,f 11,f 12,f 13,f 14,f 15,f 16,f 17,f 18,f 19,undef,undef,undef,undef,undef,undef,undef,undef,undef,undef,undef,undef,undef,undef,undef,undef,undef,undef,undef,undef,undef,undef,undef,undef,undef,undef,undef,undef,undef,undef,undef,undef,undef,undef,undef,undef,undef,undef,undef,undef,undef,undef,undef,undef,undef,undef,undef,undef,undef,undef,undef,undef,undef,undef,undef,undef,undef,undef,undef,undef,undef,undef],defers:=[] }) (λgx W=>Blk W gx 215 XB.toArray/\Bw w W/\w.heap.size<=gx) ?_ ?_
 ·refine wp_region_held_drew (S:=λw'=>w'.cell? ⟨g,1,none⟩=some (.map (some gn))/\(Instr.lookup 197 (.map (some gn)) (.int .i64 x) false).run prog w'= .ok (.agg XB.toArray) w') oM (CA.out) (λhHeld=> ?_);refine wpAnyH_take (i:=0) (v:= ?_) rfl oM oM oM (λ_ _ _ h=>(by cases h.1)) (.inl ⟨by rfl,?_⟩) hHeld ?_
  rotate_left
  ·intro w dq;obtain⟨s0,s1⟩:=dq;go_simp
   with_reducible rfl
  simp only[Act.put,getElem_toArray,getElem_cons_zero,setIfInBounds_toArray,set_cons_zero,set_cons_succ];refine wpAnyH_take (i:=1) (v:= ?_) rfl oM oM oM (λ_ _ _ h=>(by cases h.1)) (.inl ⟨by rfl,?_⟩) hHeld ?_
  rotate_left
  ·intro w dq;obtain⟨s0,s1⟩:=dq;go_simp
   with_reducible rfl
  simp only[Act.put,getElem_toArray,getElem_cons_zero,getElem_cons_succ,setIfInBounds_toArray,set_cons_zero,set_cons_succ];refine wpAnyH_take (i:=2) (v:= ?_) rfl oM oM oM (λ_ _ _ h=>(by cases h.1)) (.inl ⟨by rfl,?_⟩) hHeld ?_
  rotate_left
  ·intro w dq;obtain⟨s0,s1⟩:=dq;go_simp
   with_reducible rfl
  simp only[Act.put,getElem_toArray,getElem_cons_zero,getElem_cons_succ,setIfInBounds_toArray,set_cons_zero,set_cons_succ];refine wpAnyH_take (i:=3) (v:= ?_) rfl oM oM oM (λ_ _ _ h=>(by cases h.1)) (.inl ⟨by rfl,?_⟩) hHeld ?_
  rotate_left
  ·intro w dq;obtain⟨s0,s1⟩:=dq;go_simp
   with_reducible rfl
  simp only[Act.put,getElem_toArray,getElem_cons_zero,getElem_cons_succ,setIfInBounds_toArray,set_cons_zero,set_cons_succ];refine wpAnyH_take (i:=4) (v:= ?_) rfl oM oM oM (λ_ _ _ h=>(by cases h.1)) (.inl ⟨by rfl,?_⟩) hHeld ?_
  rotate_left
  ·intro w dq;obtain⟨s0,s1⟩:=dq;go_simp
   with_reducible rfl
  simp only[Act.put,getElem_toArray,getElem_cons_zero,getElem_cons_succ,setIfInBounds_toArray,set_cons_zero,set_cons_succ];refine wpAnyH_take (i:=5) (v:= ?_) rfl oM oM oM (λ_ _ _ h=>(by cases h.1)) (.inl ⟨by rfl,?_⟩) hHeld ?_
  rotate_left
  ·intro w dq;obtain⟨s0,s1⟩:=dq;go_simp
   with_reducible rfl
  simp only[Act.put,getElem_toArray,getElem_cons_zero,getElem_cons_succ,setIfInBounds_toArray,set_cons_zero,set_cons_succ];refine wpAnyH_take (i:=6) (v:= ?_) rfl oM oM oM (λ_ _ _ h=>(by cases h.1)) (.inl ⟨by rfl,?_⟩) hHeld ?_
  rotate_left
  ·intro w dq;obtain⟨s0,s1⟩:=dq;go_simp
   with_reducible rfl
  simp only[Act.put,getElem_toArray,getElem_cons_zero,getElem_cons_succ,setIfInBounds_toArray,set_cons_zero,set_cons_succ];refine wpAnyH_take (i:=7) (v:= ?_) rfl oM oM oM (λ_ _ _ h=>(by cases h.1)) (.inl ⟨by rfl,?_⟩) hHeld ?_
  rotate_left
  ·intro w dq;obtain⟨s0,s1⟩:=dq;go_simp
   with_reducible rfl
  simp only[Act.put,getElem_toArray,getElem_cons_zero,getElem_cons_succ,setIfInBounds_toArray,set_cons_zero,set_cons_succ];refine wpAnyH_ready (rs:=[8,9]) oM (by simp) ?_;refine AllReadyH.cons rfl (λK hK=> ?_) (AllReadyH.cons rfl (λK hK=> ?_) AllReadyH.nil)
  ·go_simp
   go_at_call 191
   refine (Do _ (zaw w)).mono ?_;rintro e w9 ⟨rfl,rfl⟩;go_wp2_with fail;refine hK.out _ _ (CA.out) (λhHeld=> ?_);clear hK K;refine rd 9 (λK hK=> ?_);go_simp;refine hK.out _ _ (CB.out) (λhHeld=> ?_);clear hK K;refine rd 10 (λK hK=> ?_);rw[if_pos (by rfl)];refine wp_store_mid 215 (.tmp 5) (.tmp 16) rfl w.heap.size 0 XB.toArray rfl rfl ki zz.sizea zz.onea ?_;refine hK.out _ _ CC (λhHeld=> ?_);clear hK K;refine wpAnyH_take (i:=11) (v:= ?_) rfl oM oM oM (λ_ _ _ h=>(by cases h.1)) (.inl ⟨by rfl,?_⟩) hHeld ?_
   rotate_left
   ·intro w dq;obtain⟨s0,s1⟩:=dq;go_simp
    with_reducible rfl
   simp only[Act.put,getElem_toArray,getElem_cons_zero,getElem_cons_succ,setIfInBounds_toArray,set_cons_zero,set_cons_succ];refine wpAnyH_done oM ?_ _;exact zqU (fr:=(λgx f=>{ tmps:= #[.pointer (some ⟨g,0,none⟩),.int .i64 x,undef,undef,.int .i64 0,.pointer (some ⟨gx,0,none⟩),.int .i64 up,undef,undef,undef,undef,f 11,f 12,f 13,f 14,f 15,f 16,f 17,f 18,f 19,undef,undef,undef,undef,undef,undef,undef,undef,undef,undef,undef,undef,undef,undef,undef,undef,undef,undef,undef,undef,undef,undef,undef,undef,undef,undef,undef,undef,undef,undef,undef,undef,undef,undef,undef,undef,undef,undef,undef,undef,undef,undef,undef,undef,undef,undef,undef,undef,undef,undef,undef,undef,undef,undef,undef,undef,undef,undef,undef,undef,undef,undef],defers:=[] })) (Φ:=(λgx W=>Blk W gx 215 XB.toArray/\Bw w W/\w.heap.size<=gx)) w.heap.size sE rfl
  ·go_simp;refine hK.out _ _ (CB.out) (λhHeld=> ?_);clear hK K;refine rd 8 (λK hK=> ?_);go_simp
   go_at_call 191
   refine (Do _ (zad (zaw w) (zaa _ _))).mono ?_;rintro e w9 ⟨rfl,rfl⟩;go_wp2_with fail;refine hK.out _ _ (CB.out) (λhHeld=> ?_);clear hK K;refine rd 10 (λK hK=> ?_);rw[if_pos (by rfl)];refine wp_store_mid 215 (.tmp 5) (.tmp 16) rfl w.heap.size 0 XB.toArray rfl rfl ki zz.sizea zz.onea ?_;refine hK.out _ _ CC (λhHeld=> ?_);clear hK K;refine wpAnyH_take (i:=11) (v:= ?_) rfl oM oM oM (λ_ _ _ h=>(by cases h.1)) (.inl ⟨by rfl,?_⟩) hHeld ?_
   rotate_left
   ·intro w dq;obtain⟨s0,s1⟩:=dq;go_simp
    with_reducible rfl
   simp only[Act.put,getElem_toArray,getElem_cons_zero,getElem_cons_succ,setIfInBounds_toArray,set_cons_zero,set_cons_succ];refine wpAnyH_done oM ?_ _;exact zqU (fr:=(λgx f=>{ tmps:= #[.pointer (some ⟨g,0,none⟩),.int .i64 x,undef,undef,.int .i64 0,.pointer (some ⟨gx,0,none⟩),.int .i64 up,undef,undef,undef,undef,f 11,f 12,f 13,f 14,f 15,f 16,f 17,f 18,f 19,undef,undef,undef,undef,undef,undef,undef,undef,undef,undef,undef,undef,undef,undef,undef,undef,undef,undef,undef,undef,undef,undef,undef,undef,undef,undef,undef,undef,undef,undef,undef,undef,undef,undef,undef,undef,undef,undef,undef,undef,undef,undef,undef,undef,undef,undef,undef,undef,undef,undef,undef,undef,undef,undef,undef,undef,undef,undef,undef,undef,undef,undef],defers:=[] })) (Φ:=(λgx W=>Blk W gx 215 XB.toArray/\Bw w W/\w.heap.size<=gx)) w.heap.size sE rfl
 ·rintro gx f W ⟨kD,Cb,tN⟩;clear CA CB CC ki sE Hf Do hg;have KB:=kA kD;have HH:=kA (Q4 W Cb);have HB:=kA Cb;clear kD Cb Q4 zw;go_wp2_with fail;refine HH.mono ?_;rintro e W1 ⟨rfl,b1⟩;replace KB:=kA (KB.keep b1);replace HB:=kA (zad HB b1);obtain⟨c2,hg,hl⟩:=DJ.out W1 HB;have Q5:Hid (∀u,Bw w u->u.cell? ⟨g,2,none⟩=some (.map (some gs))/\g<u.heap.size/\True):=kA (λu q=>⟨(DJ u q).1,(DJ u q).2.1,trivial⟩);clear b1 HH DJ
  cases ho with
  | false=>
   obtain⟨X4,Hq⟩:=DX.out W1 gx KB;have zx:=KB.lt;obtain⟨KE,yE⟩:∃KE,KE=nd.2:=⟨_,rfl⟩;obtain⟨w2,r2,Hg,cJ,jA⟩:=kV.out W1.drew (⟨x,nd.1,!nd.2⟩,1) (zad HB (zaw W1))
   have zC:Hid (w2.cell? ⟨g,2,none⟩=some (.map (some gs))/\w2.cell? ⟨gx,12,none⟩=some (.bool nd.2)/\w2.rangeAt gx 0 MB):=kA (by
    have k2:=KB.same (w':=w2) (cJ gx tN zx)
    exact⟨jA,(DX w2 gx k2).2,(DX w2 gx k2).1⟩)
   clear cJ jA;have Q6:ChL w w2 p (wS p (zxK p.S x (znU nd false ou x).1)):=Hg;have Hw:=kA Q6;have DK:∀W,(Instr.build 228 #[(0,.agg MB.toArray),(1,.bool !KE)]).run prog W= .ok (.agg (MB++[Value.bool !KE]).toArray) W:=λW=>by rw[zA.out];exact zkQ _ _ W
   have dH:∀W,(Instr.build 299 #[(0,.agg (MB++[Value.bool !KE]).toArray),(1,.int .i64 1)]).run prog W= .ok (.agg (MB++[Value.bool !KE,Value.int .i64 1]).toArray) W:=λW=>by rw[zA.out];exact zhq _ _ _ W
   have Nk:(Instr.mapUpdate 198 (.map (some gs)) (.int .i64 x) (.agg (MB++[Value.bool !KE,Value.int .i64 1]).toArray)).run prog W1.drew= .ok () w2:=by
    rw[zA.out,yE];exact r2
   rw[<-yE]at Hq zC;obtain⟨X1,cu⟩:∃X1,X1=MB++[Value.bool !KE]:=⟨_,rfl⟩;obtain⟨X2,dp⟩:∃X2,X2=MB++[Value.bool !KE,Value.int .i64 1]:=⟨_,rfl⟩;rw[<-cu]at DK dH;rw[<-dp]at dH Nk;have SA:=kA (And.intro c2 (And.intro Hq X4));clear Hg Q6 r2 hl kV Hu dx dJ yE cu dp DX c2 Hq X4;go_wp2;refine wp_region_held_drew (S:=λw'=>w'.cell? ⟨g,2,none⟩=some (.map (some gs))/\w'.cell? ⟨gx,12,none⟩=some (.bool KE)/\w'.rangeAt gx 0 MB) oM (SA.out) (λhHeld=> ?_);refine tk 0 hHeld ?_;refine tk 1 hHeld ?_;refine tk 2 hHeld ?_;refine tk 3 hHeld ?_;refine tk 4 hHeld ?_;refine tk 5 hHeld ?_;refine tkl 6 rfl (yieldsIf_load_mid (by rfl) _ _ rfl _ _ rfl _ _ (λ_ h=>h.2.2) underlying46 rfl sD.size) hHeld ?_;refine tk 7 hHeld ?_;refine tk 8 hHeld ?_;refine tk 9 hHeld ?_;refine wpAnyH_take (i:=10) (v:=(.agg X1.toArray)) rfl oM oM oM (λ_ _ _ h=>h) (zbx (by rfl) 228 _ _ rfl (.agg MB.toArray) (.bool !KE) (.agg X1.toArray) rfl rfl DK) hHeld ?_;simp only[Act.put,getElem_toArray,getElem_cons_zero,getElem_cons_succ,setIfInBounds_toArray,set_cons_zero,set_cons_succ];refine wpAnyH_take (i:=11) (v:=(.agg X2.toArray)) rfl oM oM oM (λ_ _ _ h=>h) (zbx (by rfl) 299 _ _ rfl (.agg X1.toArray) (.int .i64 1) (.agg X2.toArray) rfl rfl dH) hHeld ?_;simp only[Act.put,getElem_toArray,getElem_cons_zero,getElem_cons_succ,setIfInBounds_toArray,set_cons_zero,set_cons_succ];refine rd 12 (λK hK=> ?_);go_simp;refine hK.out _ _ zC (λhHeld=> ?_);clear hK K;refine wpAnyH_done oM ?_ _;go_wp2;go_ret;exact⟨rfl,Hw⟩
  | true=>
   have Dp:=kA (zvI (ou.getD zRf));have xm:Hid (∀W gg,Blk W gg 299 (cSd (ou.getD zRf)).toArray->W.rangeAt gg 0 (lM (ou.getD zRf).1.wo)/\W.cell? ⟨gg,12,none⟩=some (.bool (ou.getD zRf).1.sh)/\W.cell? ⟨gg,13,none⟩=some (.int .i64 (ou.getD zRf).2)):=kA (λW gg k=>⟨zaF k 0 12,k.cell 12,k.cell 13⟩);have DT:w.heap.size<=W1.heap.size:=HB.size;obtain⟨XR,Xt⟩:∃XR,XR=cSd (ou.getD zRf):=⟨_,rfl⟩;rw[<-Xt]at Dp xm hl;have qV:Hid ((W1.alloc (.cells (cSd zRf).toArray 299)).there W1.heap.size 0 XR.toArray.size):=kA (zae (Blk.new W1 _ _) (by rw[size_toArray,Dp.len];exact Nat.le_refl 14));have Q7:Bw W1 (W1.alloc (.cells (cSd zRf).toArray 299)):=zaa _ _;have zD:Bw W1 ((W1.alloc (.cells (cSd zRf).toArray 299)).setCells W1.heap.size 0 XR):=zab XR Q7 (Nat.le_refl _);have Yo:Hid (Blk ((W1.alloc (.cells (cSd zRf).toArray 299)).setCells W1.heap.size 0 XR) W1.heap.size 299 XR.toArray/\Blk ((W1.alloc (.cells (cSd zRf).toArray 299)).setCells W1.heap.size 0 XR) gx 215 XB.toArray/\Bw w ((W1.alloc (.cells (cSd zRf).toArray 299)).setCells W1.heap.size 0 XR)):=kA ⟨zal (Blk.new W1 _ _) (by rw[Dp.len];rfl),KB.keep zD,zad HB zD⟩;obtain⟨os,Ys⟩:∃os,os=ou.isSome:=⟨_,rfl⟩;rw[<-Ys]at hl;clear Xt Q7 zD;go_upto_region 6 with (refine wpList_store_mid rfl 299 (.tmp 7) (.tmp 43) rfl W1.heap.size 0 XR.toArray rfl rfl qV Dp.sizea Dp.onea ?_);refine fin (λW=>Blk W W1.heap.size 299 XR.toArray/\Blk W gx 215 XB.toArray/\Bw w W) Yo ?_;clear Yo qV Dp hl c2 hg KB HB;obtain⟨g7,Ck⟩:∃g7,g7=W1.heap.size:=⟨_,rfl⟩;rw[<-Ck]at DT ⊢;rintro W2 ⟨k7,kb,Kh⟩;have K7:=kA k7;have KB:=kA kb;have HB:=kA Kh;clear k7 kb Kh Ck
   cases ou with
   | none=>
    have zE:os=false:=Ys;subst zE;have Q8:=kA (Hu W2 HB);clear Ys Hu kV dx;go_wp2;go_ret;exact⟨rfl,Q8⟩
   | some u=>
    have zE:os=true:=Ys;subst zE;obtain⟨sG,C2,XI⟩:=xm.out W2 g7 K7;have Nl:=K7.lt;obtain⟨H8,Ca⟩:=dx.out u rfl;have hV:znU nd true (some u) x=if 16<=u.2 then (none,7) else if zaE u.1.wo nd.1=0 then (some (⟨x,zbB u.1.wo nd.1,u.1.sh && !nd.2⟩,u.2+1),0) else (none,zaE u.1.wo nd.1):=rfl
    replace XI:W2.cell? ⟨g7,13,none⟩=some (.int .i64 (u.2:Int)):=XI;clear Ys
    by_cases ZC:16<=u.2
    ·rw[if_pos ZC]at hV;have Q8:Hid (ChL w W2 p (wS p (zxK p.S x (znU nd true (some u) x).1))):=kA (by rw[hV];exact Hu W2 HB);have dF:Hid ((znU nd true (some u) x).2=7):=kA (by rw[hV]);obtain⟨d,hd⟩:∃d,d=u.2:=⟨_,rfl⟩;rw[<-hd]at ZC XI;have zF:(16:Int)<=(d:Int):=om;have nh:decide ((16:Int)<=(d:Int))=true:=decide_eq_true zF;clear hV Hu kV dx hd H8 Ca xm sG C2 ZC;go_wp2;go_ret;exact⟨by rw[dF.out] <;> rfl,Q8⟩
    ·rw[if_neg ZC]at hV;have HMul:Hid (∀W gg,Blk W gg 46 (lM u.1.wo++MB).toArray->Calls prog 254 #[.slice (some ⟨gg,0,none⟩) 2 2] W λe w'=>e= .returned (.tuple #[.agg (lM (if zaE u.1.wo nd.1=0 then zbB u.1.wo nd.1 else zdG)).toArray,.int .i64 (zaE u.1.wo nd.1)])/\Bw W w'):=kA (λW gg k=>zuP u.1.wo nd.1 H8 dJ W gg (by rw[zA.out]at k;exact k))
     have dw:Hid (∀W,(Instr.buildSlice 326 2 #[(0,.agg (lM u.1.wo).toArray),(1,.agg MB.toArray)]).run prog W= .ok (.slice (some ⟨W.heap.size,0,none⟩) 2 2) (W.alloc (.cells (lM u.1.wo++MB).toArray 46))):=kA (λW=>by rw[zA.out];exact zxL _ _ W);have tO:=kA (zjX u.1.wo);have Q9:Hid (W2.rangeAt g7 0 (lM u.1.wo)):=kA sG;have tP:Hid (W2.rangeAt gx 0 MB):=kA (DX W2 gx KB).1;have dn:=kA (zjX (if zaE u.1.wo nd.1=0 then zbB u.1.wo nd.1 else zdG))
     obtain⟨MU,tQ⟩:∃MU,MU=lM u.1.wo:=⟨_,rfl⟩;obtain⟨E,hE⟩:∃E,E=zaE u.1.wo nd.1:=⟨_,rfl⟩;rw[<-tQ]at HMul dw tO Q9;rw[<-hE]at HMul dn hV;obtain⟨PM,sH⟩:∃PM,PM=(if E=0 then zbB u.1.wo nd.1 else zdG):=⟨_,rfl⟩
     rw[<-sH]at HMul dn;obtain⟨MP,sI⟩:∃MP,MP=lM PM:=⟨_,rfl⟩;rw[<-sI]at HMul dn;obtain⟨ZZ,tT⟩:∃ZZ,ZZ=MU++MB:=⟨_,rfl⟩;rw[<-tT]at HMul dw;have Xc:=kA sI;have yF:=kA sH;have Yt:=kA hV;obtain⟨d,hd⟩:∃d,d=u.2:=⟨_,rfl⟩;have HD:=kA hd;rw[<-hd]at ZC XI Ca;have zF:¬(16:Int)<=(d:Int):=om;have ZD:Hid (∀V,Bw W2 V->Blk V g7 299 XR.toArray/\Blk V gx 215 XB.toArray/\Bw w V):=kA (λV q=>⟨K7.keep q,KB.keep q,zad HB q⟩);have Km:w.heap.size<=W2.heap.size:=HB.size;clear hV sG C2 H8 tQ hE sH sI tT hd ZC dJ dx KB HB;go_wp2_with (first | refine wpList_load_mid rfl 46 (.tmp 52) rfl g7 0 rfl MU _ Q9 underlying46 rfl tO.size ?_ | refine wpList_load_mid rfl 46 (.tmp 54) rfl gx 0 rfl MB _ tP underlying46 rfl sD.size ?_ | refine zo8 rfl 326 46 (.tmp 53) (.tmp 55) rfl MU MB ZZ rfl rfl dw ?_)
     refine (HMul _ _ (Blk.new W2 _ _)).mono ?_;rintro e V ⟨rfl,bv⟩;have XT:Bw W2 V:=zad (zaa _ _) bv;have tV:Hid ((V.alloc (.cells (lM zdG).toArray 46)).there V.heap.size 0 MP.toArray.size):=kA (zae (Blk.new V _ _) (by have:=dn.len;rw[size_toArray,this];exact Nat.le_refl 12));have ja:Bw V (V.alloc (.cells (lM zdG).toArray 46)):=zaa _ _;have jb:Bw V ((V.alloc (.cells (lM zdG).toArray 46)).setCells V.heap.size 0 MP):=zab MP ja (Nat.le_refl _);have Yp:Hid (Blk ((V.alloc (.cells (lM zdG).toArray 46)).setCells V.heap.size 0 MP) V.heap.size 46 MP.toArray/\Bw W2 ((V.alloc (.cells (lM zdG).toArray 46)).setCells V.heap.size 0 MP)):=kA ⟨zal (Blk.new V _ _) (by rw[dn.len];rfl),zad XT jb⟩;have CS:W2.heap.size<=V.heap.size:=XT.size;clear bv XT ja jb HMul dw Q9 tP XI Nl K7;go_upto_region 11 with (refine wpList_store_mid rfl 46 (.tmp 9) (.tmp 58) rfl V.heap.size 0 MP.toArray rfl rfl tV dn.sizea dn.onea ?_);refine fin (λW=>Blk W V.heap.size 46 MP.toArray/\Bw W2 W) Yp ?_;clear Yp tV;obtain⟨g9,jc⟩:∃g9,g9=V.heap.size:=⟨_,rfl⟩;rw[<-jc]at CS ⊢;rintro W3 ⟨k9,KO⟩;obtain⟨k7,kb,sJ⟩:=ZD.out W3 KO;have HB:=kA sJ;clear jc ZD KO
     by_cases dI:E=0
     ·subst dI;rw[if_pos rfl]at Yt yF;obtain⟨c2,hg,-⟩:=Q5.out W3 HB;obtain⟨w2,r2,Hg,cJ,jA⟩:=kV.out W3.drew (⟨x,zbB u.1.wo nd.1,u.1.sh && !nd.2⟩,d+1) (zad HB (zaw W3));have Hw:Hid (ChL w w2 p (wS p (zxK p.S x (znU nd true (some u) x).1))):=kA (by rw[Yt.out,<-HD.out];exact Hg);have dF:Hid ((znU nd true (some u) x).2=0):=kA (by rw[Yt.out]);have tW:W3.rangeAt g9 0 MP:=zac k9;obtain⟨_,C2,XI⟩:=xm.out W3 g7 k7;replace XI:W3.cell? ⟨g7,13,none⟩=some (.int .i64 (d:Int)):=by rw[HD.out];exact XI
      have sL:=(DX W3 gx kb).2;replace C2:W3.cell? ⟨g7,12,none⟩=some (.bool u.1.sh):=C2;have zx:=kb.lt;have z7:=k7.lt;have z9:=k9.lt
      have zC:Hid (w2.cell? ⟨g,2,none⟩=some (.map (some gs))/\w2.cell? ⟨g7,12,none⟩=some (.bool u.1.sh)/\w2.cell? ⟨g7,13,none⟩=some (.int .i64 (d:Int))/\w2.cell? ⟨gx,12,none⟩=some (.bool nd.2)/\w2.rangeAt g9 0 MP):=kA (by
       have q7:=k7.same (w':=w2) (cJ g7 DT z7);have qx:=kb.same (w':=w2) (cJ gx tN zx);have q9:=k9.same (w':=w2) (cJ g9 (Nat.le_trans Km CS) z9)
       exact⟨jA,(xm w2 g7 q7).2.1,by rw[HD.out];exact (xm w2 g7 q7).2.2,(DX w2 gx qx).2,zac q9⟩)
      have H7:Hid ((Instr.mapUpdate 198 (.map (some gs)) (.int .i64 x) (.agg (MP++[Value.bool (u.1.sh && !nd.2),Value.int .i64 ((d:Int)+1)]).toArray)).run prog W3.drew= .ok () w2):=kA (by
       rw[Xc.out,yF.out]
       exact r2)
      have Hk:Hid (∀b W,(Instr.build 228 #[(0,.agg MP.toArray),(1,.bool b)]).run prog W= .ok (.agg (MP++[Value.bool b]).toArray) W):=kA (λb W=>by rw[Xc.out];exact zkQ _ b W);have He:Hid (∀b W,(Instr.build 299 #[(0,.agg (MP++[Value.bool b]).toArray),(1,.int .i64 ((d:Int)+1))]).run prog W= .ok (.agg (MP++[Value.bool b,Value.int .i64 ((d:Int)+1)]).toArray) W):=kA (λb W=>by rw[Xc.out];exact zhq _ b _ W);have hw:IntKind.i64.wrap ((d:Int)+1)=(d:Int)+1:=by rw[IntKind.wrap_i64];omega
      obtain⟨KE,yE⟩:∃KE,KE=nd.2:=⟨_,rfl⟩;obtain⟨sh,tX⟩:∃sh,sh=u.1.sh:=⟨_,rfl⟩;rw[<-yE]at sL zC H7;rw[<-tX]at C2 zC H7;have SA:=kA (And.intro c2 (And.intro C2 (And.intro XI (And.intro sL tW))));clear Hg r2 cJ jA c2 C2 XI sL tW yE tX k7 kb k9 kV Hu Yt yF Xc xm DX Q5 HD zF
      cases sh with
      | false=>
       have DK:=Hk.out false;have dH:=He.out false;have DU:=H7.out;rw[Bool.false_and]at DU;obtain⟨X1,cu⟩:∃X1,X1=MP++[Value.bool false]:=⟨_,rfl⟩;obtain⟨X2,dp⟩:∃X2,X2=MP++[Value.bool false,Value.int .i64 ((d:Int)+1)]:=⟨_,rfl⟩;rw[<-cu]at DK dH;rw[<-dp]at dH DU;clear Hk He H7 cu dp;go_wp2;refine wp_region_held_drew (S:=λw'=>w'.cell? ⟨g,2,none⟩=some (.map (some gs))/\w'.cell? ⟨g7,12,none⟩=some (.bool false)/\w'.cell? ⟨g7,13,none⟩=some (.int .i64 (d:Int))/\w'.cell? ⟨gx,12,none⟩=some (.bool KE)/\w'.rangeAt g9 0 MP) oM (SA.out) (λhHeld=> ?_);refine tk 0 hHeld ?_;refine tk 1 hHeld ?_;refine tk 2 hHeld ?_;refine tk 3 hHeld ?_;refine tk 4 hHeld ?_;refine tkl 5 rfl (yieldsIf_load_mid (by rfl) _ _ rfl _ _ rfl _ _ (λ_ h=>h.2.2.2.2) underlying46 rfl dn.size) hHeld ?_;refine tk 6 hHeld ?_;refine tk 7 hHeld ?_;refine tk 8 hHeld ?_;refine tk 9 hHeld ?_;refine tks 10 hHeld ?_;refine tks 11 hHeld ?_;refine tks 12 hHeld ?_;refine tk 13 hHeld ?_;refine wpAnyH_take (i:=14) (v:=(.agg X1.toArray)) rfl oM oM oM (λ_ _ _ h=>h) (zbx (by rfl) 228 _ _ rfl (.agg MP.toArray) (.bool false) (.agg X1.toArray) rfl rfl DK) hHeld ?_;simp only[Act.put,getElem_toArray,getElem_cons_zero,getElem_cons_succ,setIfInBounds_toArray,set_cons_zero,set_cons_succ];refine tk 15 hHeld ?_;refine tk 16 hHeld ?_;refine tk 17 hHeld ?_;refine wpAnyH_take (i:=18) (v:=(.agg X2.toArray)) rfl oM oM oM (λ_ _ _ h=>h) (zbx (by rfl) 299 _ _ rfl (.agg X1.toArray) (.int .i64 ((d:Int)+1)) (.agg X2.toArray) rfl rfl dH) hHeld ?_;simp only[Act.put,getElem_toArray,getElem_cons_zero,getElem_cons_succ,setIfInBounds_toArray,set_cons_zero,set_cons_succ];refine rd 19 (λK hK=> ?_);go_simp;refine hK.out _ _ zC (λhHeld=> ?_);clear hK K;refine wpAnyH_done oM ?_ _;go_wp2;go_ret;exact⟨by rw[dF.out] <;> rfl,Hw⟩
      | true=>
       have DK:=Hk.out (!KE);have dH:=He.out (!KE);have DU:=H7.out;rw[Bool.true_and]at DU;obtain⟨X1,cu⟩:∃X1,X1=MP++[Value.bool !KE]:=⟨_,rfl⟩;obtain⟨X2,dp⟩:∃X2,X2=MP++[Value.bool !KE,Value.int .i64 ((d:Int)+1)]:=⟨_,rfl⟩;rw[<-cu]at DK dH;rw[<-dp]at dH DU;clear Hk He H7 cu dp;go_wp2;refine wp_region_held_drew (S:=λw'=>w'.cell? ⟨g,2,none⟩=some (.map (some gs))/\w'.cell? ⟨g7,12,none⟩=some (.bool true)/\w'.cell? ⟨g7,13,none⟩=some (.int .i64 (d:Int))/\w'.cell? ⟨gx,12,none⟩=some (.bool KE)/\w'.rangeAt g9 0 MP) oM (SA.out) (λhHeld=> ?_);refine tk 0 hHeld ?_;refine tk 1 hHeld ?_;refine tk 2 hHeld ?_;refine tk 3 hHeld ?_;refine tk 4 hHeld ?_;refine tkl 5 rfl (yieldsIf_load_mid (by rfl) _ _ rfl _ _ rfl _ _ (λ_ h=>h.2.2.2.2) underlying46 rfl dn.size) hHeld ?_;refine tk 6 hHeld ?_;refine tk 7 hHeld ?_;refine tk 8 hHeld ?_;refine tk 9 hHeld ?_;refine tk 10 hHeld ?_;refine tk 11 hHeld ?_;refine tk 12 hHeld ?_;refine tk 13 hHeld ?_;refine wpAnyH_take (i:=14) (v:=(.agg X1.toArray)) rfl oM oM oM (λ_ _ _ h=>h) (zbx (by rfl) 228 _ _ rfl (.agg MP.toArray) (.bool !KE) (.agg X1.toArray) rfl rfl DK) hHeld ?_;simp only[Act.put,getElem_toArray,getElem_cons_zero,getElem_cons_succ,setIfInBounds_toArray,set_cons_zero,set_cons_succ];refine tk 15 hHeld ?_;refine tk 16 hHeld ?_;refine tk 17 hHeld ?_;refine wpAnyH_take (i:=18) (v:=(.agg X2.toArray)) rfl oM oM oM (λ_ _ _ h=>h) (zbx (by rfl) 299 _ _ rfl (.agg X1.toArray) (.int .i64 ((d:Int)+1)) (.agg X2.toArray) rfl rfl dH) hHeld ?_;simp only[Act.put,getElem_toArray,getElem_cons_zero,getElem_cons_succ,setIfInBounds_toArray,set_cons_zero,set_cons_succ];refine rd 19 (λK hK=> ?_);go_simp;refine hK.out _ _ zC (λhHeld=> ?_);clear hK K;refine wpAnyH_done oM ?_ _;go_wp2;go_ret;exact⟨by rw[dF.out] <;> rfl,Hw⟩
     ·rw[if_neg dI]at Yt;have Q8:Hid (ChL w W3 p (wS p (zxK p.S x (znU nd true (some u) x).1))):=kA (by rw[Yt.out];exact Hu W3 HB);have dF:Hid ((znU nd true (some u) x).2=E):=kA (by rw[Yt.out]);clear kV Hu Yt yF Xc xm DX HD k7 kb k9;go_wp2;go_ret;exact⟨by rw[dF.out] <;> rfl,Q8⟩
end
end Go.Proofs.YtlibdcmcbinfnaaGreat
