/- Lemmas. -/
import Derived.Test.YtlibdcmcbinfnaaGreatMS26
set_option maxHeartbeats 100000000
set_option maxRecDepth 1000000
namespace Go.Proofs.YtlibdcmcbinfnaaGreat
open _root_.Go.Proofs.Tryz List Nat
open Go.RowKit
theorem zcB{fn:Func}{tmps:Array Value}{s r q:Tmp}{t:TypeId}{g:Nat}{v u z:Value}{w:World}(hr:fn.results= #[.cell s t,.tmp r,.tmp q])(hp:tmps.getD s undef= .pointer (some ⟨g,0,none⟩))(hu:tmps.getD r undef=u)(hz:tmps.getD q undef=z)(hl:(loadVar t ⟨g,0,none⟩).run prog w= .ok v w):(results fn tmps).run prog w= .ok (.tuple #[v,u,z]) w:=by
 unfold results;rw[hr];have hp':tmps[s]?.getD undef= .pointer (some ⟨g,0,none⟩):=by simpa using hp
 have Yx:tmps[r]?.getD undef=u:=by simpa using hu
 have ZX:tmps[q]?.getD undef=z:=by simpa using hz
 simp[hp',Yx,ZX,hl,asAddr]
def lS(M:Nat->Int)(s:Bool):List Value:=[.int .i64 (M 0),.int .i64 (M 1),.int .i64 (M 2),.int .i64 (M 3),.int .i64 (M 4),.int .i64 (M 5),.int .i64 (M 6),.int .i64 (M 7),.int .i64 (M 8),.int .i64 (M 9),.int .i64 (M 10),.int .i64 (M 11),.bool s]
def lyR(P:PT):Int:=if zcl P.1 3 then P.2.2.2.2.2.2.2 else 1
def oeR(M:Nat->Int)(P:PT)(s:Bool):Int:=if s && zdJ P then zjo M P.2.2.2.1 else 0
def obR(M:Nat->Int)(P:PT)(s:Bool):Bool:=s && zdJ P && decide (zjo M P.2.2.2.1=0)
def zrx(x:Int)(P:PT)(M:Nat->Int):Rc:=⟨x,P.2.2.1,P.2.2.2.2.1,P.2.2.2.2.2.1,P.2.2.2.2.2.2.1,lyR P,zcH M P.2.2.2.1 0,zcH M P.2.2.2.1 1,zcH M P.2.2.2.1 2,zcH M P.2.2.2.1 3,zcH M P.2.2.2.1 4,zcH M P.2.2.2.1 5⟩
def ovR(x:Int)(M:Nat->Int)(P:PT)(s:Bool):Rc:=if obR M P s then zrx x P M else zRc
theorem zry(P:PT)(w:World):
  Calls prog 217 #[.agg (pl P).toArray] w λe w'=>e= .returned (.int .i64 (lyR P))/\Bw w w':=by
 have K0:=kA (Blk.new w 52 (pl P).toArray);have Ha:Hid (Bw w (w.alloc (.cells (pl P).toArray 52))):=kA (zaa _ _);have HC:Hid (∀W g,Blk W g 52 (pl P).toArray->W.cell? ⟨g,0,none⟩=some (.int .i64 P.1)/\W.cell? ⟨g,23,none⟩=some (.int .i64 P.2.2.2.2.2.2.2)):=kA (λW g k=>⟨k.cell 0,k.cell 23⟩);obtain⟨X,hX⟩:∃X,X=pl P:=⟨_,rfl⟩;obtain⟨h,hh⟩:∃h,h=P.1:=⟨_,rfl⟩;obtain⟨l,hl⟩:∃l,l=P.2.2.2.2.2.2.2:=⟨_,rfl⟩;have qK:Hid (lyR P=if zcl h 3 then l else 1):=kA (by rw[hh,hl];rfl)
 rw[<-hX]at K0 Ha HC ⊢;rw[<-hh,<-hl]at HC;clear hX hh hl;obtain⟨bb,KD⟩:∃bb,bb=zcl h 3:=⟨_,rfl⟩;have dA:=kA KD
 have rJ:Hid (∀W g,W.cell? ⟨g,0,none⟩=some (.int .i64 3)->Calls prog 195 #[.int .i64 h,.slice (some ⟨g,0,none⟩) 1 1] W λe w'=>e= .returned (.bool bb)/\W=w'):=kA (λW g hc=>by
  refine (zf4 h (some ⟨g,0,none⟩) 1 1 [3] W ⟨rfl,om,.inr ⟨g,0,rfl,λi hi=> ?_⟩⟩).mono ?_
  ·obtain rfl:i=0:=om;exact hc
  ·rintro e w' ⟨rfl,r2⟩
   exact⟨by rw[KD];simp[zcv],r2⟩)
 clear KD;go_enter func217,ntmps217;go_upto_region 1 with fail;refine fin (λW=>Blk W w.heap.size 52 X.toArray/\Bw w W) ⟨K0,Ha⟩ ?_;clear K0 Ha;rintro W ⟨k,hb⟩;obtain⟨c0,jw⟩:=HC.out _ _ k;have KX:=kA k;have HB:=kA hb;have hlt:=k.lt;clear k hb;have H9:∀W,(Instr.buildSlice 53 1 #[(0,.int .i64 3)]).run prog W= .ok (.slice (some ⟨W.heap.size,0,none⟩) 1 1) (W.alloc (.cells #[.int .i64 3] 244)):=λW=>oM;have qL:=kA (rJ (W.alloc (.cells #[.int .i64 3] 244)) W.heap.size ((Blk.new W 244 #[.int .i64 3]).cell 0));go_wp2_with fail;refine qL.mono ?_;rintro e w1 ⟨rfl,rfl⟩;refine fin (λW'=>W'.cell? ⟨w.heap.size,23,none⟩=some (.int .i64 l)/\Bw w W') ⟨(HC _ _ (KX.alloc _)).2,zag HB _⟩ ?_;clear qL KX HB c0 jw HC rJ;rintro W' ⟨jw,hb⟩;have HB:=kA hb;clear hb
 cases bb
 ·have HE:Hid (lyR P=1):=kA (by rw[qK.out,<-dA.out];rfl);go_wp2;go_ret;exact⟨by rw[HE.out];rfl,HB⟩
 ·have HE:Hid (lyR P=l):=kA (by rw[qK.out,<-dA.out];rfl);go_wp2;go_ret;exact⟨by rw[HE.out];rfl,HB⟩
def zyQ(M:Nat->Int):List Value:=[.int .i64 (M 0),.int .i64 (M 1),.int .i64 (M 2),.int .i64 (M 3),.int .i64 (M 4),.int .i64 (M 5),.int .i64 (M 6),.int .i64 (M 7),.int .i64 (M 8),.int .i64 (M 9),.int .i64 (M 10),.int .i64 (M 11)]
def lB6(B:Nat->Int):List Value:=[.int .i64 (B 0),.int .i64 (B 1),.int .i64 (B 2),.int .i64 (B 3),.int .i64 (B 4),.int .i64 (B 5)]
theorem zyR(M:Nat->Int)(s:Bool):(lS M s).toArray.all (·.oneCell')=true:=by
 refine all_oneCell_toArray λu hu=> ?_;unfold lS at hu;simp only[mem_cons,not_mem_nil,or_false]at hu;rcases hu with h | h | h | h | h | h | h | h | h | h | h | h | h <;> (rw[h];rfl)
theorem zxd(B:Nat->Int):(lB6 B).toArray.all (·.oneCell')=true:=by
 refine all_oneCell_toArray λu hu=> ?_;unfold lB6 at hu;simp only[mem_cons,not_mem_nil,or_false]at hu;rcases hu with h | h | h | h | h | h <;> (rw[h];rfl)
def zB6:List Value:=[.int .i64 0,.int .i64 0,.int .i64 0,.int .i64 0,.int .i64 0,.int .i64 0]
theorem zrz(M B:Nat->Int)(w:World):Calls prog 216 #[.agg (zyQ M).toArray,.agg (lB6 B).toArray] w λe w'=>e= .returned (.tuple #[.agg (lB6 (zcH M B)).toArray,.int .i64 (zjo M B)])/\Bw w w':=zlr M B w
theorem zt1(x:Int)(P:PT)(M:Nat->Int)(s:Bool)(w:World):
  Calls prog 138 #[.int .i64 x,.agg (pl P).toArray,.agg (lS M s).toArray] w λe w'=>e= .returned (.tuple #[.agg (cRc (ovR x M P s)).toArray,.bool (obR M P s),.int .i64 (oeR M P s)])/\Bw w w':=by
 have b1:Bw w (w.alloc (.cells (pl P).toArray 52)):=zaa _ _;have s1:(w.alloc (.cells (pl P).toArray 52)).heap.size=w.heap.size+1:=by simp
 have s2:((w.alloc (.cells (pl P).toArray 52)).alloc (.cells (lS M s).toArray 228)).heap.size=w.heap.size+2:=by simp
 have k4:=((Blk.new w 52 (pl P).toArray).alloc (.cells (lS M s).toArray 228)).alloc (.cells (cRc zRc).toArray 92);have k5:=(Blk.new (w.alloc (.cells (pl P).toArray 52)) 228 (lS M s).toArray).alloc (.cells (cRc zRc).toArray 92);have k6:=Blk.new ((w.alloc (.cells (pl P).toArray 52)).alloc (.cells (lS M s).toArray 228)) 92 (cRc zRc).toArray;rw[s1]at k5;rw[s2]at k6;have YQ:=kA (And.intro k4 (And.intro k5 (And.intro k6 (zag (zag b1 (.cells (lS M s).toArray 228)) (.cells (cRc zRc).toArray 92)))));have Ye:Hid (∀W g,Blk W g 52 (pl P).toArray->W.cell? ⟨g,13,none⟩=some (.int .i64 P.2.2.1)/\W.cell? ⟨g,20,none⟩=some (.int .i64 P.2.2.2.2.1)/\W.cell? ⟨g,21,none⟩=some (.int .i64 P.2.2.2.2.2.1)/\W.cell? ⟨g,22,none⟩=some (.bool P.2.2.2.2.2.2.1)/\W.rangeAt g 14 (lB6 P.2.2.2.1)):=kA (λW g k=>⟨k.cell 13,k.cell 20,k.cell 21,k.cell 22,zaF k 14 6⟩);have jV:Hid (∀W g,Blk W g 228 (lS M s).toArray->W.cell? ⟨g,12,none⟩=some (.bool s)/\W.rangeAt g 0 (zyQ M)):=kA (λW g k=>⟨k.cell 12,zaF k 0 12⟩);have Cj:Hid (∀W,Calls prog 215 #[.agg (pl P).toArray] W λe w'=>e= .returned (.bool (zdJ P))/\Bw W w'):=kA (zoo P);have vP:Hid (∀W,Calls prog 217 #[.agg (pl P).toArray] W λe w'=>e= .returned (.int .i64 (lyR P))/\Bw W w'):=kA (zry P);have Ku:Hid (∀W,Calls prog 216 #[.agg (zyQ M).toArray,.agg (lB6 P.2.2.2.1).toArray] W λe w'=>e= .returned (.tuple #[.agg (lB6 (zcH M P.2.2.2.1)).toArray,.int .i64 (zjo M P.2.2.2.1)])/\Bw W w'):=kA (zrz M P.2.2.2.1);have Ks:Hid ((prog.info? 52).map (·.size)=some (pl P).length):=kA (zaJ P);have DD:Hid ((prog.info? 46).map (·.size)=some (zyQ M).length):=kA oM;have rK:Hid ((prog.info? 50).map (·.size)=some (lB6 P.2.2.2.1).length):=kA oM;have vQ:Hid ((prog.info? 50).map (·.size)=some (lB6 (zcH M P.2.2.2.1)).length):=kA oM;have qM:Hid ((lB6 (zcH M P.2.2.2.1)).toArray.all (·.oneCell')=true/\(lB6 (zcH M P.2.2.2.1)).length=6):=kA ⟨zxd _,rfl⟩
 have Hm:Hid ((s=false∨zdJ P=false)->ovR x M P s=zRc/\obR M P s=false/\oeR M P s=0):=kA (λh=>by
  have e:(s && zdJ P)=false:=by rcases h with h | h <;> simp[h]
  unfold ovR obR oeR;rw[e]
  simp)
 have Yf:Hid (s=true->zdJ P=true->zjo M P.2.2.2.1≠0->ovR x M P s=zRc/\obR M P s=false/\oeR M P s=zjo M P.2.2.2.1):=kA (λh1 h2 h3=>by
  unfold ovR obR oeR
  simp[h1,h2,h3])
 have YR:Hid (s=true->zdJ P=true->zjo M P.2.2.2.1=0->ovR x M P s=zrx x P M/\obR M P s=true/\oeR M P s=0):=kA (λh1 h2 h3=>by
  unfold ovR obR oeR
  simp[h1,h2,h3])
 have DF:Hid (cRc (zrx x P M)=[.int .i64 x,.int .i64 P.2.2.1,.int .i64 P.2.2.2.2.1,.int .i64 P.2.2.2.2.2.1,.bool P.2.2.2.2.2.2.1,.int .i64 (lyR P),.int .i64 (zcH M P.2.2.2.1 0),.int .i64 (zcH M P.2.2.2.1 1),.int .i64 (zcH M P.2.2.2.1 2),.int .i64 (zcH M P.2.2.2.1 3),.int .i64 (zcH M P.2.2.2.1 4),.int .i64 (zcH M P.2.2.2.1 5)]):=kA rfl;have YS:Hid (lB6 (zcH M P.2.2.2.1)=[.int .i64 (zcH M P.2.2.2.1 0),.int .i64 (zcH M P.2.2.2.1 1),.int .i64 (zcH M P.2.2.2.1 2),.int .i64 (zcH M P.2.2.2.1 3),.int .i64 (zcH M P.2.2.2.1 4),.int .i64 (zcH M P.2.2.2.1 5)]):=kA rfl;obtain⟨ov,jJ⟩:∃ov,ov=ovR x M P s:=⟨_,rfl⟩;obtain⟨ob,rM⟩:∃ob,ob=obR M P s:=⟨_,rfl⟩;obtain⟨oe,rN⟩:∃oe,oe=oeR M P s:=⟨_,rfl⟩;rw[<-jJ,<-rM,<-rN]at Hm Yf YR ⊢;obtain⟨XP,KS⟩:∃XP,XP=pl P:=⟨_,rfl⟩;obtain⟨XS,Ze⟩:∃XS,XS=lS M s:=⟨_,rfl⟩;obtain⟨XM,Yg⟩:∃XM,XM=zyQ M:=⟨_,rfl⟩;obtain⟨XB,Yh⟩:∃XB,XB=lB6 P.2.2.2.1:=⟨_,rfl⟩;obtain⟨Xcb,qN⟩:∃Xcb,Xcb=lB6 (zcH M P.2.2.2.1):=⟨_,rfl⟩;obtain⟨dr,qO⟩:∃dr,dr=zdJ P:=⟨_,rfl⟩;obtain⟨ce,rP⟩:∃ce,ce=zjo M P.2.2.2.1:=⟨_,rfl⟩;obtain⟨ly,rQ⟩:∃ly,ly=lyR P:=⟨_,rfl⟩;obtain⟨p1,cW⟩:∃p1,p1=P.2.2.1:=⟨_,rfl⟩;obtain⟨p2,xu⟩:∃p2,p2=P.2.2.2.2.1:=⟨_,rfl⟩;obtain⟨p3,Dt⟩:∃p3,p3=P.2.2.2.2.2.1:=⟨_,rfl⟩;obtain⟨p4,Xh⟩:∃p4,p4=P.2.2.2.2.2.2.1:=⟨_,rfl⟩;obtain⟨q0,jM⟩:∃q0,q0=zcH M P.2.2.2.1 0:=⟨_,rfl⟩;obtain⟨q1,xc⟩:∃q1,q1=zcH M P.2.2.2.1 1:=⟨_,rfl⟩;obtain⟨q2,Zf⟩:∃q2,q2=zcH M P.2.2.2.1 2:=⟨_,rfl⟩;obtain⟨q3,Yi⟩:∃q3,q3=zcH M P.2.2.2.1 3:=⟨_,rfl⟩;obtain⟨q4,qP⟩:∃q4,q4=zcH M P.2.2.2.1 4:=⟨_,rfl⟩;obtain⟨q5,rR⟩:∃q5,q5=zcH M P.2.2.2.1 5:=⟨_,rfl⟩;rw[<-KS]at YQ Ye Cj vP Ks ⊢;rw[<-Ze]at YQ jV ⊢;rw[<-Yg]at jV Ku DD;rw[<-Yh]at Ye Ku rK;rw[<-qN]at Ku vQ qM YS;rw[<-qO]at Cj Hm Yf YR;rw[<-rP]at Ku Yf YR;rw[<-rQ]at vP DF;rw[<-cW]at Ye DF;rw[<-xu]at Ye DF;rw[<-Dt]at Ye DF;rw[<-Xh]at Ye DF;rw[<-jM,<-xc,<-Zf,<-Yi,<-qP,<-rR]at DF YS;clear KS Ze Yg Yh qN qO rP rQ cW xu Dt Xh jM xc Zf Yi qP rR jJ rM rN k4 k5 k6 b1 s1 s2;go_enter func138,ntmps138;go_upto_region 1 with fail;refine fin (λW=>Blk W w.heap.size 52 XP.toArray/\Blk W (w.heap.size+1) 228 XS.toArray/\Blk W (w.heap.size+2) 92 (cRc zRc).toArray/\Bw w W) YQ ?_;clear YQ;rintro W0 ⟨k4,k5,k6,hb⟩;have K4:=kA k4;have K5:=kA k5;have K6:=kA k6;have HB:=kA hb;obtain⟨c12,_⟩:=jV.out _ _ k5;have NA:=k4.lt;have NB:=k5.lt;clear k4 k5 k6 hb
 cases s
 ·have HV:=kA (Hm (.inl rfl));have ki:Hid (W0.there (w.heap.size+2) 0 (cRc zRc).toArray.size):=kA (zae K6 (Nat.le_refl 12));have Hh:Hid ((prog.info? 92).map (·.size)=some (cRc zRc).toArray.size):=kA (zaN zRc);have cd:=kA (zb2 zRc)
  have Kn:Hid (Blk (W0.setCells (w.heap.size+2) 0 (cRc zRc)) (w.heap.size+2) 92 (cRc zRc).toArray/\Bw w (W0.setCells (w.heap.size+2) 0 (cRc zRc))):=kA (by
   have q:=zaf (cRc zRc) (o:=0) K6 (Nat.le_refl 12);rw[zcj]at q
   exact⟨q,zab _ HB om⟩)
  go_wp2_with (refine wpList_store_mid rfl 92 (.tmp 6) (.tmp 19) rfl (w.heap.size+2) 0 (cRc zRc).toArray rfl rfl ki Hh cd ?_);refine fin (λW=>Blk W (w.heap.size+2) 92 (cRc zRc).toArray/\Bw w W) Kn ?_;rintro Wz ⟨kr,YT⟩;have hl:=run_loadVar_mid Wz (w.heap.size+2) 0 92 (cRc zRc) _ (zac kr) underlying92 rfl (zaN zRc)
  (try simp only[Act.put,setIfInBounds_toArray,set_cons_zero,set_cons_succ])
  exact bodyPost_ret (v:= .tuple #[.agg (cRc zRc).toArray,.bool false,.int .i64 0]) (zcB results138 rfl rfl rfl hl) rfl ⟨by rw[HV.1,HV.2.1,HV.2.2],YT⟩
 ·go_wp2_with (refine za6 (by rfl) 52 (.tmp 4) rfl w.heap.size 0 rfl XP _ (zac K4) underlying52 rfl Ks ?_);refine (Cj _).mono ?_;rintro e w1 ⟨rfl,hb⟩;have vR:=kA (K4.keep hb);have rS:=kA (K5.keep hb);have jW:=kA (K6.keep hb);have dA:=kA (zad HB hb);have NC:W0.heap.size<=w1.heap.size:=hb.size;clear hb K4 K5 K6 HB Cj c12
  cases dr
  ·have HV:=kA (Hm (.inr rfl));have ki:Hid (w1.there (w.heap.size+2) 0 (cRc zRc).toArray.size):=kA (zae jW (Nat.le_refl 12));have Hh:Hid ((prog.info? 92).map (·.size)=some (cRc zRc).toArray.size):=kA (zaN zRc);have cd:=kA (zb2 zRc)
   have Kn:Hid (Blk (w1.setCells (w.heap.size+2) 0 (cRc zRc)) (w.heap.size+2) 92 (cRc zRc).toArray/\Bw w (w1.setCells (w.heap.size+2) 0 (cRc zRc))):=kA (by
    have q:=zaf (cRc zRc) (o:=0) jW (Nat.le_refl 12);rw[zcj]at q
    exact⟨q,zab _ dA om⟩)
   go_wp2_with (refine wpList_store_mid rfl 92 (.tmp 6) (.tmp 19) rfl (w.heap.size+2) 0 (cRc zRc).toArray rfl rfl ki Hh cd ?_);refine fin (λW=>Blk W (w.heap.size+2) 92 (cRc zRc).toArray/\Bw w W) Kn ?_;rintro Wz ⟨kr,YT⟩;have hl:=run_loadVar_mid Wz (w.heap.size+2) 0 92 (cRc zRc) _ (zac kr) underlying92 rfl (zaN zRc)
   (try simp only[Act.put,setIfInBounds_toArray,set_cons_zero,set_cons_succ])
   exact bodyPost_ret (v:= .tuple #[.agg (cRc zRc).toArray,.bool false,.int .i64 0]) (zcB results138 rfl rfl rfl hl) rfl ⟨by rw[HV.1,HV.2.1,HV.2.2],YT⟩
  ·obtain⟨_,_,_,_,qQ⟩:=Ye.out _ _ vR;obtain⟨_,X4⟩:=jV.out _ _ rS;have qR:=kA qQ;have dV:=kA X4;clear qQ X4
   go_wp2_with (first
    | refine wpList_load_mid rfl 46 (.tmp 21) rfl (w.heap.size+1) 0 rfl XM _ dV underlying46 rfl DD ?_
    | refine wpList_load_mid rfl 50 (.tmp 23) rfl w.heap.size 14 rfl XB _ qR underlying50 rfl rK ?_)
   refine (Ku _).mono ?_;rintro e w2 ⟨rfl,hb⟩;have rT:=kA (vR.keep hb);have vS:=kA (jW.keep hb);have rU:=kA (zad dA hb);have ND:w1.heap.size<=w2.heap.size:=hb.size;clear hb vR rS jW dA dV qR Ku;have KN:=Blk.new w2 50 zB6.toArray;have ki:Hid ((w2.alloc (.cells zB6.toArray 50)).there w2.heap.size 0 Xcb.toArray.size):=kA (zae KN (by show 0+Xcb.length<=6;rw[qM.2];exact Nat.le_refl 6));have vT:Hid ((prog.info? 50).map (·.size)=some Xcb.toArray.size):=vQ
   have qF:Hid (Blk ((w2.alloc (.cells zB6.toArray 50)).setCells w2.heap.size 0 Xcb) w.heap.size 52 XP.toArray/\Blk ((w2.alloc (.cells zB6.toArray 50)).setCells w2.heap.size 0 Xcb) (w.heap.size+2) 92 (cRc zRc).toArray/\Blk ((w2.alloc (.cells zB6.toArray 50)).setCells w2.heap.size 0 Xcb) w2.heap.size 50 Xcb.toArray/\Bw w ((w2.alloc (.cells zB6.toArray 50)).setCells w2.heap.size 0 Xcb)):=kA (by
    have db:Bw w2 ((w2.alloc (.cells zB6.toArray 50)).setCells w2.heap.size 0 Xcb):=zab _ (zaa _ _) (Nat.le_refl _);refine⟨rT.keep db,vS.keep db,?_,zad rU db⟩;have q:=zaf Xcb (o:=0) KN (by rw[qM.2];exact Nat.le_refl 6);rw[zao (by rw[qM.2];rfl)]at q
    exact q)
   clear KN;go_upto_region 4 with (refine wpList_store_mid rfl 50 (.tmp 9) (.tmp 26) rfl w2.heap.size 0 Xcb.toArray rfl rfl ki vT qM.1 ?_);refine fin (λW=>Blk W w.heap.size 52 XP.toArray/\Blk W (w.heap.size+2) 92 (cRc zRc).toArray/\Blk W w2.heap.size 50 Xcb.toArray/\Bw w W) qF ?_;obtain⟨g9,CS⟩:∃g9,g9=w2.heap.size:=⟨_,rfl⟩;have bN:w.heap.size+2<g9:=by
    have q:=vS.lt;omega
   rw[<-CS];clear qF ki CS rT vS rU;rintro W3 ⟨k4,k6,k9,hb⟩;have rV:=kA k4;have jX:=kA k6;have K9:=kA k9;have Ko:=kA hb;clear k4 k6 k9 hb
   by_cases he:ce=0
   ·have HV:=kA (YR (by trivial) (by trivial) he);have e1:(ce != 0)=false:=by rw[he];rfl
    have HS:Hid (∀W,Blk W w.heap.size 52 XP.toArray->Blk W g9 50 Xcb.toArray->W.cell? ⟨w.heap.size,13,none⟩=some (.int .i64 p1)/\W.cell? ⟨w.heap.size,20,none⟩=some (.int .i64 p2)/\W.cell? ⟨w.heap.size,21,none⟩=some (.int .i64 p3)/\W.cell? ⟨w.heap.size,22,none⟩=some (.bool p4)/\W.rangeAt w.heap.size 0 XP/\W.rangeAt g9 0 Xcb):=kA (λW k4 k9=>by
     obtain⟨a1,a2,a3,a4,_⟩:=Ye.out _ _ k4
     exact⟨a1,a2,a3,a4,zac k4,zac k9⟩)
    clear he;have jY:=YS.out;subst jY;go_upto_region 6 with fail;have Zg:Hid (∀W,Bw W3 W->Blk W w.heap.size 52 XP.toArray/\Blk W g9 50 ([.int .i64 q0,.int .i64 q1,.int .i64 q2,.int .i64 q3,.int .i64 q4,.int .i64 q5]:List Value).toArray/\Blk W (w.heap.size+2) 92 (cRc zRc).toArray/\Bw w W):=kA (λW hb=>⟨rV.keep hb,K9.keep hb,jX.keep hb,zad Ko hb⟩);refine wp_region_held_drew (S:=λw'=>w'.cell? ⟨w.heap.size,13,none⟩=some (.int .i64 p1)/\w'.cell? ⟨w.heap.size,20,none⟩=some (.int .i64 p2)/\w'.cell? ⟨w.heap.size,21,none⟩=some (.int .i64 p3)/\w'.cell? ⟨w.heap.size,22,none⟩=some (.bool p4)/\w'.rangeAt w.heap.size 0 XP/\w'.rangeAt g9 0 [.int .i64 q0,.int .i64 q1,.int .i64 q2,.int .i64 q3,.int .i64 q4,.int .i64 q5]) oM (HS _ (Zg _ (zaH (Below.refl _ _))).1 (Zg _ (zaH (Below.refl _ _))).2.1) (λhHeld=> ?_);refine tk 0 hHeld ?_;refine tk 1 hHeld ?_;refine tk 2 hHeld ?_;refine tk 3 hHeld ?_;refine tk 4 hHeld ?_;refine tk 5 hHeld ?_;refine tk 6 hHeld ?_;refine tk 7 hHeld ?_;refine tk 8 hHeld ?_;refine tkl 9 rfl (yieldsIf_load_mid (by rfl) _ _ rfl _ _ rfl _ _ (λ_ h=>h.2.2.2.2.1) underlying52 rfl Ks) hHeld ?_;refine tkl 11 rfl (yieldsIf_load_mid (by rfl) _ _ rfl _ _ rfl _ _ (λ_ h=>h.2.2.2.2.2) underlying50 rfl vQ) hHeld ?_;refine rd 10 (λK hK=> ?_);go_simp;refine (vP _).mono ?_;rintro e w4 ⟨rfl,b1⟩;go_wp2_with fail;refine hK.out _ _ (HS _ (Zg _ (zad (zaH (Below.refl _ _)) b1)).1 (Zg _ (zad (zaH (Below.refl _ _)) b1)).2.1) (λhHeld=> ?_);clear hK K;have vU:=kA (Zg _ (zad (zaH (Below.refl _ _)) b1));clear b1 Zg rV jX K9 Ko;refine tk 12 hHeld ?_;have ki:Hid (w4.there (w.heap.size+2) 0 12):=kA (zae vU.2.2.1 (Nat.le_refl 12));have Hh:Hid ((prog.info? 92).map (·.size)=some ([.int .i64 x,.int .i64 p1,.int .i64 p2,.int .i64 p3,.bool p4,.int .i64 ly,.int .i64 q0,.int .i64 q1,.int .i64 q2,.int .i64 q3,.int .i64 q4,.int .i64 q5]:List Value).toArray.size):=kA oM;have cd:Hid (([.int .i64 x,.int .i64 p1,.int .i64 p2,.int .i64 p3,.bool p4,.int .i64 ly,.int .i64 q0,.int .i64 q1,.int .i64 q2,.int .i64 q3,.int .i64 q4,.int .i64 q5]:List Value).toArray.all (·.oneCell')=true):=kA (by have q:=zb2 (zrx x P M);rw[DF.out]at q;exact q)
    have Kn:Hid (Blk (w4.setCells (w.heap.size+2) 0 [.int .i64 x,.int .i64 p1,.int .i64 p2,.int .i64 p3,.bool p4,.int .i64 ly,.int .i64 q0,.int .i64 q1,.int .i64 q2,.int .i64 q3,.int .i64 q4,.int .i64 q5]) w.heap.size 52 XP.toArray/\Blk (w4.setCells (w.heap.size+2) 0 [.int .i64 x,.int .i64 p1,.int .i64 p2,.int .i64 p3,.bool p4,.int .i64 ly,.int .i64 q0,.int .i64 q1,.int .i64 q2,.int .i64 q3,.int .i64 q4,.int .i64 q5]) g9 50 ([.int .i64 q0,.int .i64 q1,.int .i64 q2,.int .i64 q3,.int .i64 q4,.int .i64 q5]:List Value).toArray/\Blk (w4.setCells (w.heap.size+2) 0 [.int .i64 x,.int .i64 p1,.int .i64 p2,.int .i64 p3,.bool p4,.int .i64 ly,.int .i64 q0,.int .i64 q1,.int .i64 q2,.int .i64 q3,.int .i64 q4,.int .i64 q5]) (w.heap.size+2) 92 (cRc (zrx x P M)).toArray/\Bw w (w4.setCells (w.heap.size+2) 0 [.int .i64 x,.int .i64 p1,.int .i64 p2,.int .i64 p3,.bool p4,.int .i64 ly,.int .i64 q0,.int .i64 q1,.int .i64 q2,.int .i64 q3,.int .i64 q4,.int .i64 q5])):=kA (by
     obtain⟨a1,a2,a3,a4⟩:=vU;refine⟨zat _ a1 om,zat _ a2 om,?_,zab _ a4 om⟩;rw[DF.out];have q:=zaf [.int .i64 x,.int .i64 p1,.int .i64 p2,.int .i64 p3,.bool p4,.int .i64 ly,.int .i64 q0,.int .i64 q1,.int .i64 q2,.int .i64 q3,.int .i64 q4,.int .i64 q5] (o:=0) a3 (Nat.le_refl 12);have e:=zao (X:=[.int .i64 x,.int .i64 p1,.int .i64 p2,.int .i64 p3,.bool p4,.int .i64 ly,.int .i64 q0,.int .i64 q1,.int .i64 q2,.int .i64 q3,.int .i64 q4,.int .i64 q5]) (Z:=cRc zRc) rfl;rw[e]at q
     exact q)
    clear vU;refine rd 13 (λK hK=> ?_);rw[if_pos (by rfl)];refine wp_store_mid 92 (.tmp 6) (.tmp 44) rfl (w.heap.size+2) 0 ([.int .i64 x,.int .i64 p1,.int .i64 p2,.int .i64 p3,.bool p4,.int .i64 ly,.int .i64 q0,.int .i64 q1,.int .i64 q2,.int .i64 q3,.int .i64 q4,.int .i64 q5]:List Value).toArray rfl rfl ki Hh cd ?_;refine hK.out _ _ (HS _ Kn.1 Kn.2.1) (λhHeld=> ?_);clear hK K;refine tk 14 hHeld ?_;refine tk 15 hHeld ?_;refine wpAnyH_done oM ?_ _;clear hHeld;go_wp2;refine fin (λW=>Blk W (w.heap.size+2) 92 (cRc (zrx x P M)).toArray/\Bw w W) Kn.2.2 ?_;rintro Wz ⟨kr,YT⟩;have hl:=run_loadVar_mid Wz (w.heap.size+2) 0 92 (cRc (zrx x P M)) _ (zac kr) underlying92 rfl (zaN _)
    (try simp only[Act.put,setIfInBounds_toArray,set_cons_zero,set_cons_succ])
    exact bodyPost_ret (v:= .tuple #[.agg (cRc (zrx x P M)).toArray,.bool true,.int .i64 0]) (zcB results138 rfl rfl rfl hl) rfl ⟨by rw[HV.1,HV.2.1,HV.2.2],YT⟩
   ·have HV:=kA (Yf (by trivial) (by trivial) he);have e1:(ce != 0)=true:=by simpa using he
    clear he;have ki:Hid (W3.there (w.heap.size+2) 0 (cRc zRc).toArray.size):=kA (zae jX (Nat.le_refl 12));have Hh:Hid ((prog.info? 92).map (·.size)=some (cRc zRc).toArray.size):=kA (zaN zRc);have cd:=kA (zb2 zRc)
    have Kn:Hid (Blk (W3.setCells (w.heap.size+2) 0 (cRc zRc)) (w.heap.size+2) 92 (cRc zRc).toArray/\Bw w (W3.setCells (w.heap.size+2) 0 (cRc zRc))):=kA (by
     have q:=zaf (cRc zRc) (o:=0) jX (Nat.le_refl 12);rw[zcj]at q
     exact⟨q,zab _ Ko om⟩)
    go_wp2_with (refine wpList_store_mid rfl 92 (.tmp 6) (.tmp 30) rfl (w.heap.size+2) 0 (cRc zRc).toArray rfl rfl ki Hh cd ?_);refine fin (λW=>Blk W (w.heap.size+2) 92 (cRc zRc).toArray/\Bw w W) Kn ?_;rintro Wz ⟨kr,YT⟩;have hl:=run_loadVar_mid Wz (w.heap.size+2) 0 92 (cRc zRc) _ (zac kr) underlying92 rfl (zaN zRc)
    (try simp only[Act.put,setIfInBounds_toArray,set_cons_zero,set_cons_succ])
    exact bodyPost_ret (v:= .tuple #[.agg (cRc zRc).toArray,.bool false,.int .i64 ce]) (zcB results138 rfl rfl rfl hl) rfl ⟨by rw[HV.1,HV.2.1,HV.2.2],YT⟩
end Go.Proofs.YtlibdcmcbinfnaaGreat
