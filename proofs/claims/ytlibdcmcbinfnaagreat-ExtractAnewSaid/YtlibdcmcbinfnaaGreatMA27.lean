/- Lemmas. -/
import Derived.Test.YtlibdcmcbinfnaaGreatMA26
set_option maxHeartbeats 100000000
set_option maxRecDepth 1000000
namespace Go.Proofs.YtlibdcmcbinfnaaGreat
open _root_.Go.Proofs.Tryz List Nat
open Go.RowKit
theorem zcB{fn:Func}{tmps:Array Value}{s r q:Tmp}{t:TypeId}{g:Nat}{v u z:Value}{w:World}(hr:fn.results= #[.cell s t,.tmp r,.tmp q])(hp:tmps.getD s undef= .pointer (some ⟨g,0,none⟩))(hu:tmps.getD r undef=u)(hz:tmps.getD q undef=z)(hl:(loadVar t ⟨g,0,none⟩).run prog w= .ok v w):(results fn tmps).run prog w= .ok (.tuple #[v,u,z]) w:=by
 unfold results;rw[hr];have hp':tmps[s]?.getD undef= .pointer (some ⟨g,0,none⟩):=by simpa using hp
 have ZE:tmps[r]?.getD undef=u:=by simpa using hu
 have yH:tmps[q]?.getD undef=z:=by simpa using hz
 simp[hp',ZE,yH,hl,asAddr]
def lS(M:Nat->Int)(s:Bool):List Value:=[.int .i64 (M 0),.int .i64 (M 1),.int .i64 (M 2),.int .i64 (M 3),.int .i64 (M 4),.int .i64 (M 5),.int .i64 (M 6),.int .i64 (M 7),.int .i64 (M 8),.int .i64 (M 9),.int .i64 (M 10),.int .i64 (M 11),.bool s]
def lyR(P:PT):Int:=if zcl P.1 3 then P.2.2.2.2.2.2.2 else 1
def oeR(M:Nat->Int)(P:PT)(s:Bool):Int:=if s && zdN P then zjv M P.2.2.2.1 else 0
def obR(M:Nat->Int)(P:PT)(s:Bool):Bool:=s && zdN P && decide (zjv M P.2.2.2.1=0)
def zrB(x:Int)(P:PT)(M:Nat->Int):Rc:=⟨x,P.2.2.1,P.2.2.2.2.1,P.2.2.2.2.2.1,P.2.2.2.2.2.2.1,lyR P,zcG M P.2.2.2.1 0,zcG M P.2.2.2.1 1,zcG M P.2.2.2.1 2,zcG M P.2.2.2.1 3,zcG M P.2.2.2.1 4,zcG M P.2.2.2.1 5⟩
def ovR(x:Int)(M:Nat->Int)(P:PT)(s:Bool):Rc:=if obR M P s then zrB x P M else zRc
theorem zrC(P:PT)(w:World):
  Calls prog 217 #[.agg (pl P).toArray] w λe w'=>e= .returned (.int .i64 (lyR P))/\Bw w w':=by
 have K0:=kA (Blk.new w 52 (pl P).toArray);have Hb:Hid (Bw w (w.alloc (.cells (pl P).toArray 52))):=kA (zaa _ _);have HC:Hid (∀W g,Blk W g 52 (pl P).toArray->W.cell? ⟨g,0,none⟩=some (.int .i64 P.1)/\W.cell? ⟨g,23,none⟩=some (.int .i64 P.2.2.2.2.2.2.2)):=kA (λW g k=>⟨k.cell 0,k.cell 23⟩);obtain⟨X,hX⟩:∃X,X=pl P:=⟨_,rfl⟩;obtain⟨h,hh⟩:∃h,h=P.1:=⟨_,rfl⟩;obtain⟨l,hl⟩:∃l,l=P.2.2.2.2.2.2.2:=⟨_,rfl⟩;have zS:Hid (lyR P=if zcl h 3 then l else 1):=kA (by rw[hh,hl];rfl)
 rw[<-hX]at K0 Hb HC ⊢;rw[<-hh,<-hl]at HC;clear hX hh hl;obtain⟨bb,Kt⟩:∃bb,bb=zcl h 3:=⟨_,rfl⟩;have Dp:=kA Kt
 have bz:Hid (∀W g,W.cell? ⟨g,0,none⟩=some (.int .i64 3)->Calls prog 195 #[.int .i64 h,.slice (some ⟨g,0,none⟩) 1 1] W λe w'=>e= .returned (.bool bb)/\W=w'):=kA (λW g hc=>by
  refine (zf7 h (some ⟨g,0,none⟩) 1 1 [3] W ⟨rfl,om,.inr ⟨g,0,rfl,λi hi=> ?_⟩⟩).mono ?_
  ·obtain rfl:i=0:=om;exact hc
  ·rintro e w' ⟨rfl,r2⟩
   exact⟨by rw[Kt];simp[zcw],r2⟩)
 clear Kt;go_enter func217,ntmps217;go_upto_region 1 with fail;refine fin (λW=>Blk W w.heap.size 52 X.toArray/\Bw w W) ⟨K0,Hb⟩ ?_;clear K0 Hb;rintro W ⟨k,hb⟩;obtain⟨c0,QP⟩:=HC.out _ _ k;have KX:=kA k;have HB:=kA hb;have hlt:=k.lt;clear k hb;have kj:∀W,(Instr.buildSlice 53 1 #[(0,.int .i64 3)]).run prog W= .ok (.slice (some ⟨W.heap.size,0,none⟩) 1 1) (W.alloc (.cells #[.int .i64 3] 244)):=λW=>oM;have jU:=kA (bz (W.alloc (.cells #[.int .i64 3] 244)) W.heap.size ((Blk.new W 244 #[.int .i64 3]).cell 0));go_wp2_with fail;refine jU.mono ?_;rintro e w1 ⟨rfl,rfl⟩;refine fin (λW'=>W'.cell? ⟨w.heap.size,23,none⟩=some (.int .i64 l)/\Bw w W') ⟨(HC _ _ (KX.alloc _)).2,zag HB _⟩ ?_;clear jU KX HB c0 QP HC bz;rintro W' ⟨QP,hb⟩;have HB:=kA hb;clear hb
 cases bb
 ·have HE:Hid (lyR P=1):=kA (by rw[zS.out,<-Dp.out];rfl);go_wp2;go_ret;exact⟨by rw[HE.out];rfl,HB⟩
 ·have HE:Hid (lyR P=l):=kA (by rw[zS.out,<-Dp.out];rfl);go_wp2;go_ret;exact⟨by rw[HE.out];rfl,HB⟩
def zyX(M:Nat->Int):List Value:=[.int .i64 (M 0),.int .i64 (M 1),.int .i64 (M 2),.int .i64 (M 3),.int .i64 (M 4),.int .i64 (M 5),.int .i64 (M 6),.int .i64 (M 7),.int .i64 (M 8),.int .i64 (M 9),.int .i64 (M 10),.int .i64 (M 11)]
def lB6(B:Nat->Int):List Value:=[.int .i64 (B 0),.int .i64 (B 1),.int .i64 (B 2),.int .i64 (B 3),.int .i64 (B 4),.int .i64 (B 5)]
theorem zyY(M:Nat->Int)(s:Bool):(lS M s).toArray.all (·.oneCell')=true:=by
 refine all_oneCell_toArray λu hu=> ?_;unfold lS at hu;simp only[mem_cons,not_mem_nil,or_false]at hu;rcases hu with h | h | h | h | h | h | h | h | h | h | h | h | h <;> (rw[h];rfl)
theorem zxn(B:Nat->Int):(lB6 B).toArray.all (·.oneCell')=true:=by
 refine all_oneCell_toArray λu hu=> ?_;unfold lB6 at hu;simp only[mem_cons,not_mem_nil,or_false]at hu;rcases hu with h | h | h | h | h | h <;> (rw[h];rfl)
def zB6:List Value:=[.int .i64 0,.int .i64 0,.int .i64 0,.int .i64 0,.int .i64 0,.int .i64 0]
theorem zrD(M B:Nat->Int)(w:World):Calls prog 216 #[.agg (zyX M).toArray,.agg (lB6 B).toArray] w λe w'=>e= .returned (.tuple #[.agg (lB6 (zcG M B)).toArray,.int .i64 (zjv M B)])/\Bw w w':=zlx M B w
theorem zt8(x:Int)(P:PT)(M:Nat->Int)(s:Bool)(w:World):
  Calls prog 138 #[.int .i64 x,.agg (pl P).toArray,.agg (lS M s).toArray] w λe w'=>e= .returned (.tuple #[.agg (cRc (ovR x M P s)).toArray,.bool (obR M P s),.int .i64 (oeR M P s)])/\Bw w w':=by
 have b1:Bw w (w.alloc (.cells (pl P).toArray 52)):=zaa _ _;have s1:(w.alloc (.cells (pl P).toArray 52)).heap.size=w.heap.size+1:=by simp
 have s2:((w.alloc (.cells (pl P).toArray 52)).alloc (.cells (lS M s).toArray 228)).heap.size=w.heap.size+2:=by simp
 have k4:=((Blk.new w 52 (pl P).toArray).alloc (.cells (lS M s).toArray 228)).alloc (.cells (cRc zRc).toArray 92);have k5:=(Blk.new (w.alloc (.cells (pl P).toArray 52)) 228 (lS M s).toArray).alloc (.cells (cRc zRc).toArray 92);have k6:=Blk.new ((w.alloc (.cells (pl P).toArray 52)).alloc (.cells (lS M s).toArray 228)) 92 (cRc zRc).toArray;rw[s1]at k5;rw[s2]at k6;have Z1:=kA (And.intro k4 (And.intro k5 (And.intro k6 (zag (zag b1 (.cells (lS M s).toArray 228)) (.cells (cRc zRc).toArray 92)))));have zV:Hid (∀W g,Blk W g 52 (pl P).toArray->W.cell? ⟨g,13,none⟩=some (.int .i64 P.2.2.1)/\W.cell? ⟨g,20,none⟩=some (.int .i64 P.2.2.2.2.1)/\W.cell? ⟨g,21,none⟩=some (.int .i64 P.2.2.2.2.2.1)/\W.cell? ⟨g,22,none⟩=some (.bool P.2.2.2.2.2.2.1)/\W.rangeAt g 14 (lB6 P.2.2.2.1)):=kA (λW g k=>⟨k.cell 13,k.cell 20,k.cell 21,k.cell 22,zaH k 14 6⟩);have Vt:Hid (∀W g,Blk W g 228 (lS M s).toArray->W.cell? ⟨g,12,none⟩=some (.bool s)/\W.rangeAt g 0 (zyX M)):=kA (λW g k=>⟨k.cell 12,zaH k 0 12⟩);have xk:Hid (∀W,Calls prog 215 #[.agg (pl P).toArray] W λe w'=>e= .returned (.bool (zdN P))/\Bw W w'):=kA (zou P);have S3:Hid (∀W,Calls prog 217 #[.agg (pl P).toArray] W λe w'=>e= .returned (.int .i64 (lyR P))/\Bw W w'):=kA (zrC P);have di:Hid (∀W,Calls prog 216 #[.agg (zyX M).toArray,.agg (lB6 P.2.2.2.1).toArray] W λe w'=>e= .returned (.tuple #[.agg (lB6 (zcG M P.2.2.2.1)).toArray,.int .i64 (zjv M P.2.2.2.1)])/\Bw W w'):=kA (zrD M P.2.2.2.1);have db:Hid ((prog.info? 52).map (·.size)=some (pl P).length):=kA (zaJ P);have Do:Hid ((prog.info? 46).map (·.size)=some (zyX M).length):=kA oM;have Qk:Hid ((prog.info? 50).map (·.size)=some (lB6 P.2.2.2.1).length):=kA oM;have S4:Hid ((prog.info? 50).map (·.size)=some (lB6 (zcG M P.2.2.2.1)).length):=kA oM;have jV:Hid ((lB6 (zcG M P.2.2.2.1)).toArray.all (·.oneCell')=true/\(lB6 (zcG M P.2.2.2.1)).length=6):=kA ⟨zxn _,rfl⟩
 have Hr:Hid ((s=false∨zdN P=false)->ovR x M P s=zRc/\obR M P s=false/\oeR M P s=0):=kA (λh=>by
  have e:(s && zdN P)=false:=by rcases h with h | h <;> simp[h]
  unfold ovR obR oeR;rw[e]
  simp)
 have zW:Hid (s=true->zdN P=true->zjv M P.2.2.2.1≠0->ovR x M P s=zRc/\obR M P s=false/\oeR M P s=zjv M P.2.2.2.1):=kA (λh1 h2 h3=>by
  unfold ovR obR oeR
  simp[h1,h2,h3])
 have Z2:Hid (s=true->zdN P=true->zjv M P.2.2.2.1=0->ovR x M P s=zrB x P M/\obR M P s=true/\oeR M P s=0):=kA (λh1 h2 h3=>by
  unfold ovR obR oeR
  simp[h1,h2,h3])
 have Cp:Hid (cRc (zrB x P M)=[.int .i64 x,.int .i64 P.2.2.1,.int .i64 P.2.2.2.2.1,.int .i64 P.2.2.2.2.2.1,.bool P.2.2.2.2.2.2.1,.int .i64 (lyR P),.int .i64 (zcG M P.2.2.2.1 0),.int .i64 (zcG M P.2.2.2.1 1),.int .i64 (zcG M P.2.2.2.1 2),.int .i64 (zcG M P.2.2.2.1 3),.int .i64 (zcG M P.2.2.2.1 4),.int .i64 (zcG M P.2.2.2.1 5)]):=kA rfl;have Z3:Hid (lB6 (zcG M P.2.2.2.1)=[.int .i64 (zcG M P.2.2.2.1 0),.int .i64 (zcG M P.2.2.2.1 1),.int .i64 (zcG M P.2.2.2.1 2),.int .i64 (zcG M P.2.2.2.1 3),.int .i64 (zcG M P.2.2.2.1 4),.int .i64 (zcG M P.2.2.2.1 5)]):=kA rfl;obtain⟨ov,Vh⟩:∃ov,ov=ovR x M P s:=⟨_,rfl⟩;obtain⟨ob,bA⟩:∃ob,ob=obR M P s:=⟨_,rfl⟩;obtain⟨oe,bB⟩:∃oe,oe=oeR M P s:=⟨_,rfl⟩;rw[<-Vh,<-bA,<-bB]at Hr zW Z2 ⊢;obtain⟨XP,dL⟩:∃XP,XP=pl P:=⟨_,rfl⟩;obtain⟨XS,Ql⟩:∃XS,XS=lS M s:=⟨_,rfl⟩;obtain⟨XM,zX⟩:∃XM,XM=zyX M:=⟨_,rfl⟩;obtain⟨XB,zY⟩:∃XB,XB=lB6 P.2.2.2.1:=⟨_,rfl⟩;obtain⟨Xcb,jW⟩:∃Xcb,Xcb=lB6 (zcG M P.2.2.2.1):=⟨_,rfl⟩;obtain⟨dr,Z4⟩:∃dr,dr=zdN P:=⟨_,rfl⟩;obtain⟨ce,bC⟩:∃ce,ce=zjv M P.2.2.2.1:=⟨_,rfl⟩;obtain⟨ly,bD⟩:∃ly,ly=lyR P:=⟨_,rfl⟩;obtain⟨p1,Cf⟩:∃p1,p1=P.2.2.1:=⟨_,rfl⟩;obtain⟨p2,C5⟩:∃p2,p2=P.2.2.2.2.1:=⟨_,rfl⟩;obtain⟨p3,Cg⟩:∃p3,p3=P.2.2.2.2.2.1:=⟨_,rfl⟩;obtain⟨p4,yG⟩:∃p4,p4=P.2.2.2.2.2.2.1:=⟨_,rfl⟩;obtain⟨q0,Vk⟩:∃q0,q0=zcG M P.2.2.2.1 0:=⟨_,rfl⟩;obtain⟨q1,Xl⟩:∃q1,q1=zcG M P.2.2.2.1 1:=⟨_,rfl⟩;obtain⟨q2,Qm⟩:∃q2,q2=zcG M P.2.2.2.1 2:=⟨_,rfl⟩;obtain⟨q3,zZ⟩:∃q3,q3=zcG M P.2.2.2.1 3:=⟨_,rfl⟩;obtain⟨q4,jX⟩:∃q4,q4=zcG M P.2.2.2.1 4:=⟨_,rfl⟩;obtain⟨q5,bE⟩:∃q5,q5=zcG M P.2.2.2.1 5:=⟨_,rfl⟩;rw[<-dL]at Z1 zV xk S3 db ⊢;rw[<-Ql]at Z1 Vt ⊢;rw[<-zX]at Vt di Do;rw[<-zY]at zV di Qk;rw[<-jW]at di S4 jV Z3;rw[<-Z4]at xk Hr zW Z2;rw[<-bC]at di zW Z2;rw[<-bD]at S3 Cp;rw[<-Cf]at zV Cp;rw[<-C5]at zV Cp;rw[<-Cg]at zV Cp;rw[<-yG]at zV Cp;rw[<-Vk,<-Xl,<-Qm,<-zZ,<-jX,<-bE]at Cp Z3;clear dL Ql zX zY jW Z4 bC bD Cf C5 Cg yG Vk Xl Qm zZ jX bE Vh bA bB k4 k5 k6 b1 s1 s2;go_enter func138,ntmps138;go_upto_region 1 with fail;refine fin (λW=>Blk W w.heap.size 52 XP.toArray/\Blk W (w.heap.size+1) 228 XS.toArray/\Blk W (w.heap.size+2) 92 (cRc zRc).toArray/\Bw w W) Z1 ?_;clear Z1;rintro W0 ⟨k4,k5,k6,hb⟩;have K4:=kA k4;have K5:=kA k5;have K6:=kA k6;have HB:=kA hb;obtain⟨c12,_⟩:=Vt.out _ _ k5;have E0:=k4.lt;have E4:=k5.lt;clear k4 k5 k6 hb
 cases s
 ·have HV:=kA (Hr (.inl rfl));have kt:Hid (W0.there (w.heap.size+2) 0 (cRc zRc).toArray.size):=kA (zae K6 (Nat.le_refl 12));have Hn:Hid ((prog.info? 92).map (·.size)=some (cRc zRc).toArray.size):=kA (zaK zRc);have Co:=kA (zbV zRc)
  have Kq:Hid (Blk (W0.setCells (w.heap.size+2) 0 (cRc zRc)) (w.heap.size+2) 92 (cRc zRc).toArray/\Bw w (W0.setCells (w.heap.size+2) 0 (cRc zRc))):=kA (by
   have q:=zaf (cRc zRc) (o:=0) K6 (Nat.le_refl 12);rw[zb5]at q
   exact⟨q,zab _ HB om⟩)
  go_wp2_with (refine wpList_store_mid rfl 92 (.tmp 6) (.tmp 19) rfl (w.heap.size+2) 0 (cRc zRc).toArray rfl rfl kt Hn Co ?_);refine fin (λW=>Blk W (w.heap.size+2) 92 (cRc zRc).toArray/\Bw w W) Kq ?_;rintro Wz ⟨kr,Z5⟩;have hl:=run_loadVar_mid Wz (w.heap.size+2) 0 92 (cRc zRc) _ (zac kr) underlying92 rfl (zaK zRc)
  (try simp only[Act.put,setIfInBounds_toArray,set_cons_zero,set_cons_succ])
  exact bodyPost_ret (v:= .tuple #[.agg (cRc zRc).toArray,.bool false,.int .i64 0]) (zcB results138 rfl rfl rfl hl) rfl ⟨by rw[HV.1,HV.2.1,HV.2.2],Z5⟩
 ·go_wp2_with (refine za6 (by rfl) 52 (.tmp 4) rfl w.heap.size 0 rfl XP _ (zac K4) underlying52 rfl db ?_);refine (xk _).mono ?_;rintro e w1 ⟨rfl,hb⟩;have S5:=kA (K4.keep hb);have bF:=kA (K5.keep hb);have Vu:=kA (K6.keep hb);have Dp:=kA (zad HB hb);have bG:W0.heap.size<=w1.heap.size:=hb.size;clear hb K4 K5 K6 HB xk c12
  cases dr
  ·have HV:=kA (Hr (.inr rfl));have kt:Hid (w1.there (w.heap.size+2) 0 (cRc zRc).toArray.size):=kA (zae Vu (Nat.le_refl 12));have Hn:Hid ((prog.info? 92).map (·.size)=some (cRc zRc).toArray.size):=kA (zaK zRc);have Co:=kA (zbV zRc)
   have Kq:Hid (Blk (w1.setCells (w.heap.size+2) 0 (cRc zRc)) (w.heap.size+2) 92 (cRc zRc).toArray/\Bw w (w1.setCells (w.heap.size+2) 0 (cRc zRc))):=kA (by
    have q:=zaf (cRc zRc) (o:=0) Vu (Nat.le_refl 12);rw[zb5]at q
    exact⟨q,zab _ Dp om⟩)
   go_wp2_with (refine wpList_store_mid rfl 92 (.tmp 6) (.tmp 19) rfl (w.heap.size+2) 0 (cRc zRc).toArray rfl rfl kt Hn Co ?_);refine fin (λW=>Blk W (w.heap.size+2) 92 (cRc zRc).toArray/\Bw w W) Kq ?_;rintro Wz ⟨kr,Z5⟩;have hl:=run_loadVar_mid Wz (w.heap.size+2) 0 92 (cRc zRc) _ (zac kr) underlying92 rfl (zaK zRc)
   (try simp only[Act.put,setIfInBounds_toArray,set_cons_zero,set_cons_succ])
   exact bodyPost_ret (v:= .tuple #[.agg (cRc zRc).toArray,.bool false,.int .i64 0]) (zcB results138 rfl rfl rfl hl) rfl ⟨by rw[HV.1,HV.2.1,HV.2.2],Z5⟩
  ·obtain⟨_,_,_,_,jY⟩:=zV.out _ _ S5;obtain⟨_,Cy⟩:=Vt.out _ _ bF;have jZ:=kA jY;have dM:=kA Cy;clear jY Cy
   go_wp2_with (first
    | refine wpList_load_mid rfl 46 (.tmp 21) rfl (w.heap.size+1) 0 rfl XM _ dM underlying46 rfl Do ?_
    | refine wpList_load_mid rfl 50 (.tmp 23) rfl w.heap.size 14 rfl XB _ jZ underlying50 rfl Qk ?_)
   refine (di _).mono ?_;rintro e w2 ⟨rfl,hb⟩;have bH:=kA (S5.keep hb);have S6:=kA (Vu.keep hb);have bI:=kA (zad Dp hb);have Sx:w1.heap.size<=w2.heap.size:=hb.size;clear hb S5 bF Vu Dp dM jZ di;have KN:=Blk.new w2 50 zB6.toArray;have kt:Hid ((w2.alloc (.cells zB6.toArray 50)).there w2.heap.size 0 Xcb.toArray.size):=kA (zae KN (by show 0+Xcb.length<=6;rw[jV.2];exact Nat.le_refl 6));have S7:Hid ((prog.info? 50).map (·.size)=some Xcb.toArray.size):=S4
   have jQ:Hid (Blk ((w2.alloc (.cells zB6.toArray 50)).setCells w2.heap.size 0 Xcb) w.heap.size 52 XP.toArray/\Blk ((w2.alloc (.cells zB6.toArray 50)).setCells w2.heap.size 0 Xcb) (w.heap.size+2) 92 (cRc zRc).toArray/\Blk ((w2.alloc (.cells zB6.toArray 50)).setCells w2.heap.size 0 Xcb) w2.heap.size 50 Xcb.toArray/\Bw w ((w2.alloc (.cells zB6.toArray 50)).setCells w2.heap.size 0 Xcb)):=kA (by
    have dd:Bw w2 ((w2.alloc (.cells zB6.toArray 50)).setCells w2.heap.size 0 Xcb):=zab _ (zaa _ _) (Nat.le_refl _);refine⟨bH.keep dd,S6.keep dd,?_,zad bI dd⟩;have q:=zaf Xcb (o:=0) KN (by rw[jV.2];exact Nat.le_refl 6);rw[zan (by rw[jV.2];rfl)]at q
    exact q)
   clear KN;go_upto_region 4 with (refine wpList_store_mid rfl 50 (.tmp 9) (.tmp 26) rfl w2.heap.size 0 Xcb.toArray rfl rfl kt S7 jV.1 ?_);refine fin (λW=>Blk W w.heap.size 52 XP.toArray/\Blk W (w.heap.size+2) 92 (cRc zRc).toArray/\Blk W w2.heap.size 50 Xcb.toArray/\Bw w W) jQ ?_;obtain⟨g9,xR⟩:∃g9,g9=w2.heap.size:=⟨_,rfl⟩;have mU:w.heap.size+2<g9:=by
    have q:=S6.lt;omega
   rw[<-xR];clear jQ kt xR bH S6 bI;rintro W3 ⟨k4,k6,k9,hb⟩;have bJ:=kA k4;have Vv:=kA k6;have K9:=kA k9;have KS:=kA hb;clear k4 k6 k9 hb
   by_cases he:ce=0
   ·have HV:=kA (Z2 (by trivial) (by trivial) he);have e1:(ce != 0)=false:=by rw[he];rfl
    have HS:Hid (∀W,Blk W w.heap.size 52 XP.toArray->Blk W g9 50 Xcb.toArray->W.cell? ⟨w.heap.size,13,none⟩=some (.int .i64 p1)/\W.cell? ⟨w.heap.size,20,none⟩=some (.int .i64 p2)/\W.cell? ⟨w.heap.size,21,none⟩=some (.int .i64 p3)/\W.cell? ⟨w.heap.size,22,none⟩=some (.bool p4)/\W.rangeAt w.heap.size 0 XP/\W.rangeAt g9 0 Xcb):=kA (λW k4 k9=>by
     obtain⟨a1,a2,a3,a4,_⟩:=zV.out _ _ k4
     exact⟨a1,a2,a3,a4,zac k4,zac k9⟩)
    clear he;have Vw:=Z3.out;subst Vw;go_upto_region 6 with fail;have Qn:Hid (∀W,Bw W3 W->Blk W w.heap.size 52 XP.toArray/\Blk W g9 50 ([.int .i64 q0,.int .i64 q1,.int .i64 q2,.int .i64 q3,.int .i64 q4,.int .i64 q5]:List Value).toArray/\Blk W (w.heap.size+2) 92 (cRc zRc).toArray/\Bw w W):=kA (λW hb=>⟨bJ.keep hb,K9.keep hb,Vv.keep hb,zad KS hb⟩);refine wp_region_held_drew (S:=λw'=>w'.cell? ⟨w.heap.size,13,none⟩=some (.int .i64 p1)/\w'.cell? ⟨w.heap.size,20,none⟩=some (.int .i64 p2)/\w'.cell? ⟨w.heap.size,21,none⟩=some (.int .i64 p3)/\w'.cell? ⟨w.heap.size,22,none⟩=some (.bool p4)/\w'.rangeAt w.heap.size 0 XP/\w'.rangeAt g9 0 [.int .i64 q0,.int .i64 q1,.int .i64 q2,.int .i64 q3,.int .i64 q4,.int .i64 q5]) oM (HS _ (Qn _ (zaE (Below.refl _ _))).1 (Qn _ (zaE (Below.refl _ _))).2.1) (λhHeld=> ?_);refine tk 0 hHeld ?_;refine tk 1 hHeld ?_;refine tk 2 hHeld ?_;refine tk 3 hHeld ?_;refine tk 4 hHeld ?_;refine tk 5 hHeld ?_;refine tk 6 hHeld ?_;refine tk 7 hHeld ?_;refine tk 8 hHeld ?_;refine tkl 9 rfl (yieldsIf_load_mid (by rfl) _ _ rfl _ _ rfl _ _ (λ_ h=>h.2.2.2.2.1) underlying52 rfl db) hHeld ?_;refine tkl 11 rfl (yieldsIf_load_mid (by rfl) _ _ rfl _ _ rfl _ _ (λ_ h=>h.2.2.2.2.2) underlying50 rfl S4) hHeld ?_;refine rd 10 (λK hK=> ?_);go_simp;refine (S3 _).mono ?_;rintro e w4 ⟨rfl,b1⟩;go_wp2_with fail;refine hK.out _ _ (HS _ (Qn _ (zad (zaE (Below.refl _ _)) b1)).1 (Qn _ (zad (zaE (Below.refl _ _)) b1)).2.1) (λhHeld=> ?_);clear hK K;have Vx:=kA (Qn _ (zad (zaE (Below.refl _ _)) b1));clear b1 Qn bJ Vv K9 KS;refine tk 12 hHeld ?_;have kt:Hid (w4.there (w.heap.size+2) 0 12):=kA (zae Vx.2.2.1 (Nat.le_refl 12));have Hn:Hid ((prog.info? 92).map (·.size)=some ([.int .i64 x,.int .i64 p1,.int .i64 p2,.int .i64 p3,.bool p4,.int .i64 ly,.int .i64 q0,.int .i64 q1,.int .i64 q2,.int .i64 q3,.int .i64 q4,.int .i64 q5]:List Value).toArray.size):=kA oM;have Co:Hid (([.int .i64 x,.int .i64 p1,.int .i64 p2,.int .i64 p3,.bool p4,.int .i64 ly,.int .i64 q0,.int .i64 q1,.int .i64 q2,.int .i64 q3,.int .i64 q4,.int .i64 q5]:List Value).toArray.all (·.oneCell')=true):=kA (by have q:=zbV (zrB x P M);rw[Cp.out]at q;exact q)
    have Kq:Hid (Blk (w4.setCells (w.heap.size+2) 0 [.int .i64 x,.int .i64 p1,.int .i64 p2,.int .i64 p3,.bool p4,.int .i64 ly,.int .i64 q0,.int .i64 q1,.int .i64 q2,.int .i64 q3,.int .i64 q4,.int .i64 q5]) w.heap.size 52 XP.toArray/\Blk (w4.setCells (w.heap.size+2) 0 [.int .i64 x,.int .i64 p1,.int .i64 p2,.int .i64 p3,.bool p4,.int .i64 ly,.int .i64 q0,.int .i64 q1,.int .i64 q2,.int .i64 q3,.int .i64 q4,.int .i64 q5]) g9 50 ([.int .i64 q0,.int .i64 q1,.int .i64 q2,.int .i64 q3,.int .i64 q4,.int .i64 q5]:List Value).toArray/\Blk (w4.setCells (w.heap.size+2) 0 [.int .i64 x,.int .i64 p1,.int .i64 p2,.int .i64 p3,.bool p4,.int .i64 ly,.int .i64 q0,.int .i64 q1,.int .i64 q2,.int .i64 q3,.int .i64 q4,.int .i64 q5]) (w.heap.size+2) 92 (cRc (zrB x P M)).toArray/\Bw w (w4.setCells (w.heap.size+2) 0 [.int .i64 x,.int .i64 p1,.int .i64 p2,.int .i64 p3,.bool p4,.int .i64 ly,.int .i64 q0,.int .i64 q1,.int .i64 q2,.int .i64 q3,.int .i64 q4,.int .i64 q5])):=kA (by
     obtain⟨a1,a2,a3,a4⟩:=Vx;refine⟨zat _ a1 om,zat _ a2 om,?_,zab _ a4 om⟩;rw[Cp.out];have q:=zaf [.int .i64 x,.int .i64 p1,.int .i64 p2,.int .i64 p3,.bool p4,.int .i64 ly,.int .i64 q0,.int .i64 q1,.int .i64 q2,.int .i64 q3,.int .i64 q4,.int .i64 q5] (o:=0) a3 (Nat.le_refl 12);have e:=zan (X:=[.int .i64 x,.int .i64 p1,.int .i64 p2,.int .i64 p3,.bool p4,.int .i64 ly,.int .i64 q0,.int .i64 q1,.int .i64 q2,.int .i64 q3,.int .i64 q4,.int .i64 q5]) (Z:=cRc zRc) rfl;rw[e]at q
     exact q)
    clear Vx;refine rd 13 (λK hK=> ?_);rw[if_pos (by rfl)];refine wp_store_mid 92 (.tmp 6) (.tmp 44) rfl (w.heap.size+2) 0 ([.int .i64 x,.int .i64 p1,.int .i64 p2,.int .i64 p3,.bool p4,.int .i64 ly,.int .i64 q0,.int .i64 q1,.int .i64 q2,.int .i64 q3,.int .i64 q4,.int .i64 q5]:List Value).toArray rfl rfl kt Hn Co ?_;refine hK.out _ _ (HS _ Kq.1 Kq.2.1) (λhHeld=> ?_);clear hK K;refine tk 14 hHeld ?_;refine tk 15 hHeld ?_;refine wpAnyH_done oM ?_ _;clear hHeld;go_wp2;refine fin (λW=>Blk W (w.heap.size+2) 92 (cRc (zrB x P M)).toArray/\Bw w W) Kq.2.2 ?_;rintro Wz ⟨kr,Z5⟩;have hl:=run_loadVar_mid Wz (w.heap.size+2) 0 92 (cRc (zrB x P M)) _ (zac kr) underlying92 rfl (zaK _)
    (try simp only[Act.put,setIfInBounds_toArray,set_cons_zero,set_cons_succ])
    exact bodyPost_ret (v:= .tuple #[.agg (cRc (zrB x P M)).toArray,.bool true,.int .i64 0]) (zcB results138 rfl rfl rfl hl) rfl ⟨by rw[HV.1,HV.2.1,HV.2.2],Z5⟩
   ·have HV:=kA (zW (by trivial) (by trivial) he);have e1:(ce != 0)=true:=by simpa using he
    clear he;have kt:Hid (W3.there (w.heap.size+2) 0 (cRc zRc).toArray.size):=kA (zae Vv (Nat.le_refl 12));have Hn:Hid ((prog.info? 92).map (·.size)=some (cRc zRc).toArray.size):=kA (zaK zRc);have Co:=kA (zbV zRc)
    have Kq:Hid (Blk (W3.setCells (w.heap.size+2) 0 (cRc zRc)) (w.heap.size+2) 92 (cRc zRc).toArray/\Bw w (W3.setCells (w.heap.size+2) 0 (cRc zRc))):=kA (by
     have q:=zaf (cRc zRc) (o:=0) Vv (Nat.le_refl 12);rw[zb5]at q
     exact⟨q,zab _ KS om⟩)
    go_wp2_with (refine wpList_store_mid rfl 92 (.tmp 6) (.tmp 30) rfl (w.heap.size+2) 0 (cRc zRc).toArray rfl rfl kt Hn Co ?_);refine fin (λW=>Blk W (w.heap.size+2) 92 (cRc zRc).toArray/\Bw w W) Kq ?_;rintro Wz ⟨kr,Z5⟩;have hl:=run_loadVar_mid Wz (w.heap.size+2) 0 92 (cRc zRc) _ (zac kr) underlying92 rfl (zaK zRc)
    (try simp only[Act.put,setIfInBounds_toArray,set_cons_zero,set_cons_succ])
    exact bodyPost_ret (v:= .tuple #[.agg (cRc zRc).toArray,.bool false,.int .i64 ce]) (zcB results138 rfl rfl rfl hl) rfl ⟨by rw[HV.1,HV.2.1,HV.2.2],Z5⟩
end Go.Proofs.YtlibdcmcbinfnaaGreat
