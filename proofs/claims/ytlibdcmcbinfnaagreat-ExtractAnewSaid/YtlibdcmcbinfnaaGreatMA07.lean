/- Lemmas. -/
import Derived.Test.YtlibdcmcbinfnaaGreatMA06
set_option maxHeartbeats 100000000
set_option maxRecDepth 1000000
namespace Go.Proofs.YtlibdcmcbinfnaaGreat
open _root_.Go.Proofs.Tryz List Nat
open Go.ChangeShapes Go.WideShapes Go.ChangeAt Go.RowKit Go.Deep
variable{cs:List Value}{P Q:PT}{o B i g cap n k s:Nat}{v:Value}{w0 w w' b a wr:World}{L:Nat->Bool}{x id:Int}{t:TypeId}{r:Option Nat}{G:Nat->Int}{zs:List Int}
section
variable {H:Type} {enc:TypeId × Value->H} {w:World} {base:Nat} {spare:Nat->Bool} {held:Bool}
theorem zlz(hl:cs.length=24)(h0:cs[0]? =some (.int .i64 P.1))(hM:∀i,i<12->cs[1+i]? =some (.int .i64 (P.2.1 i)))(Tt:cs[13]? =some (.int .i64 P.2.2.1))(hB:∀i,i<6->cs[14+i]? =some (.int .i64 (P.2.2.2.1 i)))
  (Tu:cs[20]? =some (.int .i64 P.2.2.2.2.1))(Tv:cs[21]? =some (.int .i64 P.2.2.2.2.2.1))(Tw:cs[22]? =some (.bool P.2.2.2.2.2.2.1))(Tx:cs[23]? =some (.int .i64 P.2.2.2.2.2.2.2)):cs=pl P:=by
 match cs,hl with
 | [c0,c1,c2,c3,c4,c5,c6,c7,c8,c9,c10,c11,c12,c13,El,Ga,tZ,Gb,Gc,Gd,c20,c21,QR,QP],_=>
  have m0:=hM 0 om;have m1:=hM 1 om;have m2:=hM 2 om;have m3:=hM 3 om;have m4:=hM 4 om;have m5:=hM 5 om;have m6:=hM 6 om;have m7:=hM 7 om;have m8:=hM 8 om;have m9:=hM 9 om;have m10:=hM 10 om;have m11:=hM 11 om;have b0:=hB 0 om;have b1:=hB 1 om;have b2:=hB 2 om;have b3:=hB 3 om;have b4:=hB 4 om;have b5:=hB 5 om;simp at h0 m0 m1 m2 m3 m4 m5 m6 m7 m8 m9 m10 m11 Tt b0 b1 b2 b3 b4 b5 Tu Tv Tw Tx;rw[h0,m0,m1,m2,m3,m4,m5,m6,m7,m8,m9,m10,m11,Tt,b0,b1,b2,b3,b4,b5,Tu,Tv,Tw,Tx];rfl
theorem zhX(h:(cs.drop o).take 1=[v]):cs[o]? =some v:=zmJ h
theorem zow{fuel:Nat}{x:DataW H × List MemPlace}(hl:cs.length=24)(h:DataW.trod enc prog w base spare held fuel 52 cs=some x):∃P:PT,cs=pl P:=by
 obtain⟨xs,n,_,_,_,CO,hx⟩:=DataW.trod_struct underlying52 h;have ZD:xs.length=8:=CO;have Yq:prog.cellsOf 43=1:=oM;have f0:DataW.trod enc prog w base spare held n 43 ((cs.drop 0).take 1)=some (xs[0]'(by omega)):=by
  have:=(hx 0 _ rfl).trans (getElem?_eq_getElem (show 0<xs.length by omega));exact (congrArg (λc=>DataW.trod enc prog w base spare held n 43 ((cs.drop 0).take c)) Yq.symm).trans this
 have Dd:prog.cellsOf 46=12:=oM;have f1:DataW.trod enc prog w base spare held n 46 ((cs.drop 1).take 12)=some (xs[1]'(by omega)):=by
  have:=(hx 1 _ rfl).trans (getElem?_eq_getElem (show 1<xs.length by omega));exact (congrArg (λc=>DataW.trod enc prog w base spare held n 46 ((cs.drop 1).take c)) Dd.symm).trans this
 have dx:prog.cellsOf 3=1:=oM;have f2:DataW.trod enc prog w base spare held n 3 ((cs.drop 13).take 1)=some (xs[2]'(by omega)):=by
  have:=(hx 2 _ rfl).trans (getElem?_eq_getElem (show 2<xs.length by omega));exact (congrArg (λc=>DataW.trod enc prog w base spare held n 3 ((cs.drop 13).take c)) dx.symm).trans this
 have xC:prog.cellsOf 50=6:=oM;have f3:DataW.trod enc prog w base spare held n 50 ((cs.drop 14).take 6)=some (xs[3]'(by omega)):=by
  have:=(hx 3 _ rfl).trans (getElem?_eq_getElem (show 3<xs.length by omega));exact (congrArg (λc=>DataW.trod enc prog w base spare held n 50 ((cs.drop 14).take c)) xC.symm).trans this
 have Yr:prog.cellsOf 3=1:=oM;have f4:DataW.trod enc prog w base spare held n 3 ((cs.drop 20).take 1)=some (xs[4]'(by omega)):=by
  have:=(hx 4 _ rfl).trans (getElem?_eq_getElem (show 4<xs.length by omega));exact (congrArg (λc=>DataW.trod enc prog w base spare held n 3 ((cs.drop 20).take c)) Yr.symm).trans this
 have Ys:prog.cellsOf 3=1:=oM;have f5:DataW.trod enc prog w base spare held n 3 ((cs.drop 21).take 1)=some (xs[5]'(by omega)):=by
  have:=(hx 5 _ rfl).trans (getElem?_eq_getElem (show 5<xs.length by omega));exact (congrArg (λc=>DataW.trod enc prog w base spare held n 3 ((cs.drop 21).take c)) Ys.symm).trans this
 have sW:prog.cellsOf 4=1:=oM;have f6:DataW.trod enc prog w base spare held n 4 ((cs.drop 22).take 1)=some (xs[6]'(by omega)):=by
  have:=(hx 6 _ rfl).trans (getElem?_eq_getElem (show 6<xs.length by omega));exact (congrArg (λc=>DataW.trod enc prog w base spare held n 4 ((cs.drop 22).take c)) sW.symm).trans this
 have ml:prog.cellsOf 3=1:=oM;have f7:DataW.trod enc prog w base spare held n 3 ((cs.drop 23).take 1)=some (xs[7]'(by omega)):=by
  have:=(hx 7 _ rfl).trans (getElem?_eq_getElem (show 7<xs.length by omega));exact (congrArg (λc=>DataW.trod enc prog w base spare held n 3 ((cs.drop 23).take c)) ml.symm).trans this
 obtain⟨v0,e0,_,_⟩:=DataW.trod_int underlying43 f0;obtain⟨M,hM⟩:=zjJ underlying46 underlying44 oM f1;obtain⟨v2,e2,_,_⟩:=DataW.trod_int underlying3 f2;obtain⟨B,hB⟩:=zsZ f3;obtain⟨v4,e4,_,_⟩:=DataW.trod_int underlying3 f4;obtain⟨v5,e5,_,_⟩:=DataW.trod_int underlying3 f5;obtain⟨v6,e6,_⟩:=DataW.trod_bool underlying4 f6;obtain⟨v7,e7,_,_⟩:=DataW.trod_int underlying3 f7;exact⟨(v0,M,v2,B,v4,v5,v6,v7),zlz hl (zhX e0) (λi hi=>zd4 (M:=M) (λi hi=>(hM i hi).1) hi) (zhX e2) (λi hi=>zd4 hB hi) (zhX e4) (zhX e5) (zhX e6) (zhX e7)⟩
end
open Go.RowKit
abbrev TR:=List (Int × PT)
def d0:Int × PT:=(0,zT)
def zcX(R:TR)(id:Int):Bool:=R.any λr=>r.1==id
def zaB(R:TR)(id:Int):Int:=match R.findIdx? (λr=>r.1==id) with | some i=>(i:Int) | none=> -1
def zbN(s:Int)(P:PT):Bool:=zay P && (P.1==s)
def inR(R:TR)(row:Int):Bool:=decide (0<=row) && decide (row<(R.length:Int))
def zpp(s:Int)(R:TR)(id:Int)(P:PT):Int:=if zbN s P then (if zcX R id then 5 else 0) else 1
def zvd(s:Int)(R:TR)(id:Int)(P:PT):Int:=if zpp s R id P=0 then (R.length:Int) else 0
def zjx(s:Int)(R:TR)(id:Int)(P:PT):TR:=if zpp s R id P=0 then R++[(id,P)] else R
def zqj(s:Int)(R:TR)(row:Int)(P:PT):Int:=if zbN s P then (if inR R row then 0 else 4) else 1
def zhx(s:Int)(R:TR)(row:Int)(P:PT):TR:=if zqj s R row P=0 then R.set row.toNat ((R.getD row.toNat d0).1,P) else R
def zx8(R:TR)(row:Int):Int:=if inR R row then 0 else 4
def zve(R:TR)(row:Int):Int:=if inR R row then (if row+1<(R.length:Int) then (R.getD (R.length - 1) d0).1 else -1) else -1
def zec(R:TR)(row:Int):TR:=if inR R row then (R.set row.toNat (R.getD (R.length - 1) d0)).take (R.length - 1) else R
def Fr(w w':World)(L:Nat->Prop):Prop:=w'.os=w.os/\w'.tape=w.tape/\w'.output=w.output/\w.heap.size<=w'.heap.size/\∀b,b<w.heap.size->¬L b->w'.heap[b]? =w.heap[b]?
def TC(TB:World->Nat->(Nat->Prop)->Int->TR->Prop):Prop:=
 (∀w w' g L s R,TB w g L s R->(∀b,L b->w'.heap[b]? =w.heap[b]?)->TB w' g L s R)/\
 (∀w g L s R,TB w g L s R->∀b,L b->b<w.heap.size)/\
 (∀ (w:World) (s:Int),0<=s/\s<=31->Calls prog 239 #[.int .i64 s] w λe w'=>∃g L,e= .returned (.tuple #[.pointer (some ⟨g,0,none⟩),.int .i64 0])/\TB w' g L s []/\(∀b,L b->w.heap.size<=b)/\Bw w w')/\
 (∀ (w:World) g L s R (id:Int) (P:PT),R.length<=1000->TB w g L s R->Calls prog 180 #[.pointer (some ⟨g,0,none⟩),.int .i64 id,.agg (pl P).toArray] w λe w'=>∃L',e= .returned (.tuple #[.int .i64 (zvd s R id P),.int .i64 (zpp s R id P)])/\TB w' g L' s (zjx s R id P)/\Fr w w' L/\∀b,L' b->L b∨w.heap.size<=b)/\
 (∀ (w:World) g L s R (row:Int) (P:PT),R.length<=1000->TB w g L s R->Calls prog 273 #[.pointer (some ⟨g,0,none⟩),.int .i64 row,.agg (pl P).toArray] w λe w'=>∃L',e= .returned (.int .i64 (zqj s R row P))/\TB w' g L' s (zhx s R row P)/\Fr w w' L/\∀b,L' b->L b∨w.heap.size<=b)/\
 (∀ (w:World) g L s R (row:Int),R.length<=1000->TB w g L s R->Calls prog 186 #[.pointer (some ⟨g,0,none⟩),.int .i64 row] w λe w'=>∃L',e= .returned (.tuple #[.int .i64 (zve R row),.int .i64 (zx8 R row)])/\TB w' g L' s (zec R row)/\Fr w w' L/\∀b,L' b->L b∨w.heap.size<=b)/\
 (∀ (w:World) g L s R (row:Int),R.length<=1000->TB w g L s R->Calls prog 262 #[.pointer (some ⟨g,0,none⟩),.int .i64 row] w λe w'=>∃ (x:Int) (P:PT),e= .returned (.tuple #[.int .i64 x,.agg (pl P).toArray,.bool (inR R row)])/\(inR R row=true->(x,P)=R.getD row.toNat d0)/\Bw w w')/\
 (∀ (w:World) g L s R (id:Int),R.length<=1000->TB w g L s R->Calls prog 241 #[.pointer (some ⟨g,0,none⟩),.int .i64 id] w λe w'=>e= .returned (.int .i64 (zaB R id))/\Bw w w')/\
 (∀ (w:World) g L s R,R.length<=1000->TB w g L s R->Calls prog 243 #[.pointer (some ⟨g,0,none⟩)] w λe w'=>e= .returned (.int .i64 (R.length:Int))/\Bw w w')
theorem Fr.below{L:Nat->Prop}(h:Fr w w' L)(hb:Below B w0 w)(hL:∀b,L b->B<=b)(hs:B<=w.heap.size):Below B w0 w':=
 ⟨h.1.trans hb.os,h.2.1.trans hb.tape,h.2.2.1.trans hb.output,Nat.le_trans hb.size h.2.2.2.1,λk hk=>(h.2.2.2.2 k om (λc=>by have:=hL k c;omega)).trans (hb.block k hk)⟩
theorem zte{R:TR}{row:Int}(h:inR R row=true):∃ (i:Nat) (hi:i<R.length),row=(i:Int)/\R.getD row.toNat d0=R[i]:=by
 unfold inR at h;rw[Bool.and_eq_true,decide_eq_true_eq,decide_eq_true_eq]at h;refine⟨row.toNat,om,om,?_⟩;simp[getD,getElem?_eq_getElem (show row.toNat<R.length by omega)]
theorem zix{R:TR}(h:(R.map Prod.fst).Nodup){i j:Nat}(hi:i<R.length)(hj:j<R.length)(e:R[i].1=R[j].1):i=j:=by
 have hp:=List.pairwise_iff_getElem.1 h;rcases Nat.lt_trichotomy i j with c | c | c
 ·exact absurd (by rw[getElem_map,getElem_map];exact e) (hp i j (by simpa using hi) (by simpa using hj) c)
 ·exact c
 ·exact absurd (by rw[getElem_map,getElem_map];exact e.symm) (hp j i (by simpa using hj) (by simpa using hi) c)
theorem zwu{R:TR}(h:(R.map Prod.fst).Nodup){i:Nat}(hi:i<R.length)(P:PT):R.map (λx=>if x.1==R[i].1 then (x.1,P) else x)=R.set i (R[i].1,P):=by
 refine ext_getElem (by simp) (λj h1 h2=> ?_);have hj:j<R.length:=by simpa using h1
 rw[getElem_map,getElem_set]
 by_cases c:i=j
 ·subst c;simp
 ·rw[if_neg c,if_neg (by intro e;exact c (zix h hi hj (by simpa using (beq_iff_eq.1 e).symm)))]
theorem zfN:∀ (R:TR) (i:Nat) (hi:i<R.length),(R.map Prod.fst).Nodup->(R.filter λx=>x.1 != (R[i]'hi).1)=R.eraseIdx i
 | [],i,hi,_=>by cases hi
 | a::r,0,_,h=>by
  rw[map_cons,nodup_cons]at h
  have:(r.filter λx=>x.1 != a.1)=r:=List.filter_eq_self.2 (λx hx=>by
   simp only[bne_iff_ne,ne_eq];intro e
   exact h.1 (mem_map.2 ⟨x,hx,e⟩))
  simp[this]
 | a::r,i+1,hi,h=>by
  rw[map_cons,nodup_cons]at h;have hi':i<r.length:=by simpa using hi
  have ih:=zfN r i hi' h.2;have Hd:(a.1 != (r[i]'hi').1)=true:=by
   simp only[bne_iff_ne,ne_eq];intro e;exact h.1 (mem_map.2 ⟨_,getElem_mem hi',e.symm⟩)
  show filter (λx=>x.1 != (r[i]'hi').1) (a::r)=a::r.eraseIdx i;rw[filter_cons,if_pos Hd,ih]
theorem zjU:∀ (l:TR) (i:Nat) (a:Int × PT),i<l.length->(l.set i a).Perm (a::l.eraseIdx i)
 | [],_,_,h=>by cases h
 | x::r,0,a,_=>List.Perm.refl _
 | x::r,i+1,a,h=>((zjU r i a (by simpa using h)).cons x).trans (List.Perm.swap a x _)
theorem ztf(D:TR)(z:Int × PT)(i:Nat)(hi:i<D.length+1):((D++[z]).eraseIdx i).Perm (((D++[z]).set i z).take D.length):=by
 by_cases c:i<D.length
 ·rw[eraseIdx_append_of_lt_length c,set_append_left _ _ c,take_append_of_le_length (by rw[length_set];exact Nat.le_refl _),take_of_length_le (by rw[length_set];exact Nat.le_refl _)];exact (perm_append_singleton _ _).trans (zjU D i z c).symm
 ·have:i=D.length:=om;subst this;rw[eraseIdx_append_of_length_le (Nat.le_refl _),set_append_right _ _ (Nat.le_refl _),take_append_of_le_length (Nat.le_refl _),take_of_length_le (Nat.le_refl _)];simp
theorem zhY{R:TR}(h:(R.map Prod.fst).Nodup){i:Nat}(hi:i<R.length):(R.filter λx=>x.1 != R[i].1).Perm ((R.set i (R.getD (R.length - 1) d0)).take (R.length - 1)):=by
 rw[zfN R i hi h];clear h;have hn:R≠[]:=by intro e;rw[e]at hi;cases hi
 obtain⟨D,z,rfl⟩:∃D z,R=D++[z]:=⟨R.dropLast,R.getLast hn,(dropLast_concat_getLast hn).symm⟩;have e1:(D++[z]).length - 1=D.length:=by simp
 have e2:(D++[z]).getD D.length d0=z:=by simp[getD]
 rw[e1,e2];exact ztf D z i (by simpa using hi)
theorem zmX{R:TR}(h:(R.map Prod.fst).Nodup){x:Int × PT}(hx:x∈R):inR R (zaB R x.1)=true/\R.getD (zaB R x.1).toNat d0=x:=by
 obtain⟨i,hi,rfl⟩:=getElem_of_mem hx;have e:R.findIdx? (λr=>r.1==R[i].1)=some i:=by
  rw[findIdx?_eq_some_iff_getElem];refine⟨hi,by simp,λj hj=> ?_⟩;intro c;have:=zix h (i:=j) (j:=i) om hi (beq_iff_eq.1 c);omega
 have e2:zaB R R[i].1=(i:Int):=by unfold zaB;rw[e]
 rw[e2];refine⟨by unfold inR;simp[hi],?_⟩;simp[getD,getElem?_eq_getElem hi]
def zyv(x:Int × PT):List Value:= .int .i64 x.1::pl x.2
theorem zaF{b:Nat}(h:w.rangeAt b o cs)(e:w'.heap[b]? =w.heap[b]?):w'.rangeAt b o cs:=λj v hv=>by
 have:=h j v hv;simp only[World.cell?]at this ⊢;rw[e];exact this
abbrev AT:=Int × Int × PT × Int
def a0:AT:=(0,0,zT,0)
variable {c:Int × PT->List Value} {k:Nat}
theorem zmY(hc:∀x,(c x).length=k):∀X:TR,(X.flatMap c).length=X.length*k
 | []=>by simp
 | x::X=>by
  rw[flatMap_cons,length_append,hc,zmY hc X,length_cons,Nat.add_mul];omega
theorem zjV(hc:∀x,(c x).length=k):∀ (X:TR) (n:Nat),n<=X.length->(X.take n).flatMap c=(X.flatMap c).take (n*k)
 | X,0,_=>by simp
 | [],n+1,h=>by simp at h
 | x::X,n+1,h=>by
  have ih:=zjV hc X n (by rw[length_cons]at h;omega);rw[take_succ_cons,flatMap_cons,flatMap_cons,ih,take_append,hc x,take_of_length_le (l:=c x) (by rw[hc x,Nat.add_mul];omega),show (n+1)*k - k=n*k by rw[Nat.add_mul];omega]
theorem zqk(hc:∀x,(c x).length=k):∀ (X:TR) (i:Nat) (x:Int × PT),X[i]? =some x->((X.flatMap c).drop (i*k)).take k=c x
 | [],i,x,h=>by simp at h
 | a::X,0,x,h=>by
  simp at h;subst h;rw[flatMap_cons,Nat.zero_mul,drop_zero,<-hc a,take_left]
 | a::X,i+1,x,h=>by
  have ih:=zqk hc X i x (by simpa using h);rw[flatMap_cons,drop_append,hc a,drop_of_length_le (by rw[hc a,Nat.add_mul];omega),nil_append,show (i+1)*k - k=i*k by rw[Nat.add_mul];omega];exact ih
theorem zmZ(hc:∀x,(c x).length=k):∀ (X:TR) (i:Nat) (y:Int × PT),i<X.length->(X.set i y).flatMap c=zaM (X.flatMap c) (i*k) (c y)
 | [],i,y,h=>by simp at h
 | a::X,0,y,h=>by
  unfold zaM;rw[set_cons_zero,flatMap_cons,flatMap_cons,Nat.zero_mul,take_zero,Nat.zero_add,hc y,nil_append,<-hc a,drop_left]
 | a::X,i+1,y,h=>by
  have ih:=zmZ hc X i y (by simpa using h);unfold zaM at ih ⊢;have e:(i+1)*k=k+i*k:=by rw[Nat.add_mul];omega
  rw[set_cons_succ,flatMap_cons,flatMap_cons,ih,e,take_append,drop_append,hc a,take_of_length_le (l:=c a) (by rw[hc a];omega),drop_eq_nil_of_le (show (c a).length<=k+i*k+(c y).length by rw[hc a];omega),show k+i*k - k=i*k by omega,show k+i*k+(c y).length - k=i*k+(c y).length by omega];simp
def ColX(w:World)(t:TypeId)(k:Nat)(c:Int × PT->List Value)(v:Value)(X:TR):Prop:=w.ownsRow 0 t k v X.length (X.flatMap c)
theorem ColX.nil(w:World)(t:TypeId)(k:Nat)(c:Int × PT->List Value):ColX w t k c (.slice none 0 0) []:=World.ownsRow_nil _ _ _ _
theorem ColX.open_{X:TR}(h:ColX w t k c v X)(hX:0<X.length):
  ∃g cap cur,v= .slice (some ⟨g,0,none⟩) X.length cap/\Blk w g t (toArray cur)/\X.length<=cap/\cap<=maxLen/\cur.length=cap*k/\cur.take (X.length*k)=X.flatMap c:=by
 rcases h.2 with ⟨_,h0⟩ | ⟨g,cap,cur,hv,_,hg,hn,hm,hs,ht⟩
 ·omega
 ·exact⟨g,cap,cur.toList,hv,by simpa[Blk] using hg,hn,hm,by simpa using hs,ht⟩
theorem ColX.close{X:TR}{cur:List Value}(hc:∀x,(c x).length=k)(hb:Blk w g t cur.toArray)(hn:X.length<=cap)(hm:cap<=maxLen)(hs:cur.length=cap*k)(ht:cur.take (X.length*k)=X.flatMap c):ColX w t k c (.slice (some ⟨g,0,none⟩) X.length cap) X:=
 ⟨zmY hc X,.inr ⟨g,cap,cur.toArray,rfl,zero_le _,hb,hn,hm,by simpa using hs,by simpa using ht⟩⟩
theorem ColX.form{X:TR}(h:ColX w t k c v X):∃a cap,v= .slice a X.length cap/\X.length<=cap/\cap<=maxLen:=by
 rcases h.2 with ⟨hv,h0⟩ | ⟨g,cap,cur,hv,_,hg,hn,hm,hs,ht⟩
 ·exact⟨none,0,by rw[h0];exact hv,om,by unfold maxLen;omega⟩
 ·exact⟨_,cap,hv,hn,hm⟩
theorem ColX.range{X:TR}(hc:∀x,(c x).length=k)(h:ColX w t k c (.slice (some ⟨g,0,none⟩) n cap) X){i:Nat}{x:Int × PT}(hi:X[i]? =some x):w.rangeAt g (i*k) (c x):=by
 have hlt:i<X.length:=(List.getElem?_eq_some_iff.1 hi).1;obtain⟨g',cap',cur,hv,hb,hn,hm,hs,ht⟩:=h.open_ om;injection hv with h1 h2 h3;injection h1 with h1;injection h1 with h1;subst h1;have:=zaH hb (i*k) k;have e:(cur.drop (i*k)).take k=c x:=by
  rw[<-zqk hc X i x hi,<-ht,drop_take,take_take,Nat.min_eq_left];have:(i+1)*k<=X.length*k:=mul_le_mul_right _ hlt;rw[Nat.add_mul]at this;omega
 rwa [e]at this
theorem ColX.blk{X:TR}(h:ColX w t k c (.slice (some ⟨g,0,none⟩) n cap) X)(hX:0<X.length):∃cur,Blk w g t (toArray cur)/\X.length*k<=cur.length/\X.length=n/\X.length<=cap/\cap<=maxLen/\cur.length=cap*k/\cur.take (X.length*k)=X.flatMap c:=by
 obtain⟨g',cap',cur,hv,hb,hn,hm,hs,ht⟩:=h.open_ hX;injection hv with h1 h2 h3;injection h1 with h1;injection h1 with h1;subst h1;subst h3;exact⟨cur,hb,by rw[hs];exact mul_le_mul_right _ hn,h2.symm,hn,hm,hs,ht⟩
theorem zlA{A vs:List Value}(h:o+vs.length<=n)(hn:n<=A.length):(zaM A o vs).take n=zaM (A.take n) o vs:=by
 unfold zaM;rw[take_append,take_append,take_take,drop_take,length_append,length_take,Nat.min_eq_left (show o<=A.length by omega),take_take,Nat.min_eq_right (show o<=n by omega),Nat.min_eq_left (show o<=n by omega),take_of_length_le (show vs.length<=n - o by omega)]
theorem ColX.there{X:TR}(h:ColX w t k c (.slice (some ⟨g,0,none⟩) n cap) X){i:Nat}(hi:i<X.length):w.there g (i*k) k:=by
 obtain⟨cur,hb,hl,_⟩:=h.blk om;refine zae hb ?_;have:(i+1)*k<=X.length*k:=mul_le_mul_right _ hi;rw[Nat.add_mul]at this;omega
theorem ColX.set_{X:TR}(hc:∀x,(c x).length=k)(h:ColX w t k c (.slice (some ⟨g,0,none⟩) n cap) X){i:Nat}(hi:i<X.length)(y:Int × PT):ColX (w.setCells g (i*k) (c y)) t k c (.slice (some ⟨g,0,none⟩) n cap) (X.set i y):=by
 obtain⟨cur,hb,hl,hn,hcap,hm,hs,ht⟩:=h.blk om;have h1:(i+1)*k<=X.length*k:=mul_le_mul_right _ hi;rw[Nat.add_mul]at h1;have dh:=zaf (c y) (o:=i*k) hb (by rw[hc];omega);subst hn;have:=ColX.close (X:=X.set i y) (cap:=cap) hc dh (by rw[length_set];exact hcap) hm (by rw[zb8 (by rw[hc];omega)];exact hs) (by rw[length_set,zlA (by rw[hc];omega) hl,ht,zmZ hc X i y hi]);rw[length_set]at this;exact this
theorem ColX.take_{X:TR}(hc:∀x,(c x).length=k)(h:ColX w t k c (.slice (some ⟨g,0,none⟩) n cap) X)(hX:0<X.length){m:Nat}(Ty:m<=X.length):ColX w t k c (.slice (some ⟨g,0,none⟩) m cap) (X.take m):=by
 obtain⟨cur,hb,hl,hn,hcap,hm,hs,ht⟩:=h.blk hX;have e:(X.take m).length=m:=by rw[length_take];omega
 have:=ColX.close (X:=X.take m) (cap:=cap) hc hb (by rw[e];omega) hm hs (by rw[e,zjV hc X m Ty,<-ht,take_take,Nat.min_eq_left (mul_le_mul_right _ Ty)]);rw[e]at this;exact this
theorem ColX.kept{X:TR}{row:Option Nat}(h:ColX w t k c v X)(hg:w.grownBy w' row)(Hd:v.ownBlock=none∨v.ownBlock≠row):ColX w' t k c v X:=World.ownsRow.kept h hg Hd
theorem ColX.same{X:TR}(h:ColX w t k c v X)(he:∀b,v.ownBlock=some b->w'.heap[b]? =w.heap[b]?):ColX w' t k c v X:=by
 refine⟨h.1,?_⟩;rcases h.2 with hn | ⟨g,cap,cur,rfl,hb,sX,rest⟩
 ·exact .inl hn
 ·exact .inr ⟨g,cap,cur,rfl,hb,by rw[he g rfl];exact sX,rest⟩
theorem za3:∀ (vs:List Value) (w:World) (g o:Nat),w.grownBy (w.setCells g o vs) (some g)
 | [],w,g,o=>⟨rfl,rfl,rfl,Nat.le_refl _,λ_ _ _=>rfl⟩
 | v::vs,w,g,o=>by
  have h1:w.grownBy (w.setCell ⟨g,o,none⟩ v) (some g):=⟨rfl,rfl,rfl,by simp[World.setCell],λj _ Hd=>by simp[World.setCell,Array.getElem?_modify];intro e;exact absurd (by rw[e]) Hd⟩;have h2:=za3 vs (w.setCell ⟨g,o,none⟩ v) g (o+1);exact⟨h2.os.trans h1.os,h2.tape.trans h1.tape,h2.output.trans h1.output,Nat.le_trans h1.size h2.size,λi hi Hd=>(h2.block i (Nat.lt_of_lt_of_le hi h1.size) Hd).trans (h1.block i hi Hd)⟩
def upd{α:Type}(f:Nat->α)(k:Nat)(v:α)(j:Nat):α:=if j=k then v else f j
def zbC(R:Int)(G:Nat->Int)(L:Nat->Bool)(j:Nat):Value:=if j=0 then .int .i64 R else if j<257 then .int .i64 (G (j - 1)) else .bool (L (j - 257))
section
variable {w:World} {g:Nat} {t:TypeId} {R:Int} {G:Nat->Int} {L:Nat->Bool} {k:Nat}
theorem zgH(h:w.rowIs g t 513 (zbC R G L)):w.cell? ⟨g,0,none⟩=some (.int .i64 R):=h.cell (i:=0) om
theorem zf9(h:w.rowIs g t 513 (zbC R G L))(hk:k<256):w.cell? ⟨g,1+k,none⟩=some (.int .i64 (G k)):=by
 rw[h.cell (i:=1+k) om];unfold zbC;rw[if_neg om,if_pos om,show 1+k - 1=k by omega]
theorem zdO(h:w.rowIs g t 513 (zbC R G L))(hk:k<256):w.cell? ⟨g,257+k,none⟩=some (.bool (L k)):=by
 rw[h.cell (i:=257+k) om];unfold zbC;rw[if_neg om,if_neg om,show 257+k - 257=k by omega]
theorem zgI(h:w.rowIs g t 513 (zbC R G L))(hk:k<256)(b:Bool):(w.setCell ⟨g,257+k,none⟩ (.bool b)).rowIs g t 513 (zbC R G (upd L k b)):=
 (h.set (257+k) (.bool b)).congr λi hi=>by
  unfold zbC upd
  by_cases e:i=257+k
  ·rw[if_pos e,if_neg om,if_neg om,if_pos om]
  ·rw[if_neg e]
   by_cases e0:i=0
   ·rw[if_pos e0,if_pos e0]
   ·rw[if_neg e0,if_neg e0]
    by_cases e1:i<257
    ·rw[if_pos e1,if_pos e1]
    ·rw[if_neg e1,if_neg e1,if_neg om]
theorem zql(h:w.rowIs g t 513 (zbC R G L))(hk:k<256)(x:Int):(w.setCell ⟨g,1+k,none⟩ (.int .i64 x)).rowIs g t 513 (zbC R (upd G k x) L):=
 (h.set (1+k) (.int .i64 x)).congr λi hi=>by
  unfold zbC upd
  by_cases e:i=1+k
  ·rw[if_pos e,if_neg om,if_pos om,if_pos om]
  ·rw[if_neg e]
   by_cases e0:i=0
   ·rw[if_pos e0,if_pos e0]
   ·rw[if_neg e0,if_neg e0]
    by_cases e1:i<257
    ·rw[if_pos e1,if_pos e1,if_neg om]
    ·rw[if_neg e1,if_neg e1]
theorem zox{f:Nat->Value}(h:w.rowIs g t n f):w.drew.rowIs g t n f:=h
end
theorem zaT(w:World)(g i:Nat)(u:Value):w.grownBy (w.setCell ⟨g,i,none⟩ u) (some g):=by
 have hb:=(Below.refl 0 w).setCell (p:=⟨g,i,none⟩) (zero_le _) u;exact⟨hb.os,hb.tape,hb.output,hb.size,λk _ Hd=>Below.heap_setCell _ _ _ _ (λe=>Hd (by rw[e]))⟩
theorem zoy(h:a.grownBy b r):a.grownBy b.drew r:=⟨h.os,h.tape,h.output,h.size,h.block⟩
theorem zaq{c:World}(h:a.grownBy b r)(k:b.grownBy c r):a.grownBy c r:=
 ⟨k.os.trans h.os,k.tape.trans h.tape,k.output.trans h.output,Nat.le_trans h.size k.size,λi hi hn=>(k.block i (Nat.lt_of_lt_of_le hi h.size) hn).trans (h.block i hi hn)⟩
theorem zaQ(h:Bw a b)(r:Option Nat):a.grownBy b r:=⟨h.os,h.tape,h.output,h.size,λk hk _=>h.block k hk⟩
def zeo(x:Int):Bool:=decide (0<=x) && decide (x<16777216)
def nm(g:Int)(i:Nat):Int:=256*g+i
theorem zeJ(h:zeo x=true):∃i q:Nat,i<256/\q<65536/\x=256*(q:Int)+i/\x.tmod 256=i/\x.tdiv 256=q:=by
 have h2:0<=x/\x<16777216:=by simpa[zeo] using h
 obtain⟨n,rfl⟩:=Int.eq_ofNat_of_zero_le h2.1;refine⟨n % 256,n / 256,om,om,om,?_,?_⟩
 ·rw[Int.tmod_eq_emod_of_nonneg om];omega
 ·rw[Int.tdiv_eq_ediv_of_nonneg om];omega
def zbO(G:Nat->Int)(L:Nat->Bool)(x:Int):Bool:=zeo x && (L (x % 256).toNat && decide (G (x % 256).toNat=x / 256))
theorem zqm(h:zeo x=false):zbO G L x=false:=by unfold zbO;rw[h];rfl
theorem zwv{q:Nat}(hi:i<256)(hq:q<65536):zbO G L (256*(q:Int)+i)=(L i && decide (G i=(q:Int))):=by
 unfold zbO;rw[show ((256*(q:Int)+i) % 256).toNat=i by omega,show (256*(q:Int)+i) / 256=q by omega,show zeo (256*(q:Int)+i)=true by unfold zeo;simp;omega];rfl
def zgJ(G:Nat->Int)(L:Nat->Bool)(i:Nat):Bool:= !L i && decide (G i<=65535)
def tkI(G:Nat->Int)(L:Nat->Bool)(R:Nat):Option Nat:=(range R).find? (zgJ G L)
def tkV(G:Nat->Int)(L:Nat->Bool)(R:Nat):Int:=match tkI G L R with | some i=>nm (G i) i | none=>0
def tkE(G:Nat->Int)(L:Nat->Bool)(R:Nat):Int:=match tkI G L R with | some _=>0 | none=>3
def tkL(G:Nat->Int)(L:Nat->Bool)(R:Nat):Nat->Bool:=match tkI G L R with | some i=>upd L i true | none=>L
theorem zww{R:Nat}(hk:k<R)(h:∀j,j<k->zgJ G L j=false)(hf:zgJ G L k=true):tkI G L R=some k:=by
 unfold tkI;rw[find?_range_eq_some];exact⟨hf,by simpa using hk,λj hj=>by rw[h j hj];rfl⟩
theorem zwx{R:Nat}(h:∀j,j<R->zgJ G L j=false):tkI G L R=none:=by
 unfold tkI;rw[find?_eq_none];intro j hj;rw[h j (by simpa using hj)];simp
theorem zjW(h:∀j,j<k->zgJ G L j=false)(hk:zgJ G L k=false):∀j,j<k+1->zgJ G L j=false:=λj hj=>by
 by_cases c:j=k
 ·rw[c];exact hk
 ·exact h j om
def ztg(G:Nat->Int):Prop:=∀i,i<256->0<=G i/\G i<=100000
def drL(G:Nat->Int)(L:Nat->Bool)(x:Int):Nat->Bool:=if zbO G L x then upd L (x % 256).toNat false else L
def drG(G:Nat->Int)(L:Nat->Bool)(x:Int):Nat->Int:=if zbO G L x then upd G (x % 256).toNat (G (x % 256).toNat+1) else G
def zd6(G:Nat->Int)(L:Nat->Bool)(k:Nat):List Int:=((range k).filter L).map λi=>nm (G i) i
theorem zqn(h:L k=true):zd6 G L (k+1)=zd6 G L k++[nm (G k) k]:=by
 unfold zd6;rw[range_succ,filter_append,map_append];simp[h]
theorem zqo(h:L k=false):zd6 G L (k+1)=zd6 G L k:=by
 unfold zd6;rw[range_succ,filter_append,map_append];simp[h]
theorem ziy(G:Nat->Int)(L:Nat->Bool)(k:Nat):(zd6 G L k).length<=k:=by
 unfold zd6;rw[length_map];exact Nat.le_trans (length_filter_le _ _) (by simp)
def OwnD(w:World)(base:Nat)(v:Value)(n:Nat)(zs:List Int):Prop:=w.ownsRow base 81 1 v n (zs.map (Value.int .i64))
theorem zcr:(prog.info? 81).map (λi=>(i.zero,i.size,i.bytes))=some (some (.int .i64 0),1,8):=oM
theorem OwnD.nil(w:World)(base:Nat):OwnD w base (.slice none 0 0) 0 []:=World.ownsRow_nil _ _ _ _
theorem OwnD.row{base:Nat}(h:OwnD w base v n zs):∃a cap,v= .slice a n cap/\Row w a n zs:=by
 have hl:zs.length=n:=by simpa using h.1
 rcases h.2 with ⟨rfl,rfl⟩ | ⟨g,cap,cur,rfl,hb,hh,ZF,hm,hs,ht⟩
 ·exact⟨none,0,rfl,hl,om,.inl rfl⟩
 ·unfold maxLen at hm;refine⟨_,cap,rfl,hl,om,.inr ⟨g,0,rfl,λi hi=> ?_⟩⟩;rw[Nat.zero_add];have hi':i<(zs.map (Value.int .i64)).length:=by rw[length_map];omega
  have hc:=World.ownsRow.cellAt (j:=i) h om;rw[hc];simp[getD,getElem?_eq_getElem (show i<zs.length by omega)]
theorem zbS{base:Nat}{o:Obj}(ho:OwnD wr base v n zs)(hB:B<=base)(hb:Below B w0 wr)(hs:B<=wr.heap.size)(hg:(wr.alloc o).grownBy w' v.ownBlock):Below B w0 w':=
 (hb.alloc hs o).grown hg (by simp;omega) (λk hk=>by have:=World.ownsRow.lt ho k hk;omega)
theorem zci{a:Option Addr}{len:Nat}(h:Row w a len zs){k:Nat}(hk:k<len):∃b off x,a=some ⟨b,off,none⟩/\zs[k]? =some x/\w.cell? ⟨b,off+k,none⟩=some (.int .i64 x):=by
 obtain⟨h1,h2,h3⟩:=h;rcases h3 with h3 | ⟨b,off,rfl,hc⟩
 ·omega
 ·have KV:k<zs.length:=om;have c:=hc k hk;rw[show zs.getD k 0=zs[k] by simp[getD,getElem?_eq_getElem KV]]at c;exact⟨b,off,_,rfl,getElem?_eq_getElem KV,c⟩
def z0:Nat->Int:=λ_=>0
def n0:Nat->Bool:=λ_=>false
def zcells:Array Value:=((range 513).map (zbC 0 z0 n0)).toArray
theorem zwy(l:List Value):l.toArray.toList=l:=rfl
theorem zwz:zcells.toList=(range 513).map (zbC 0 z0 n0):=by unfold zcells;exact zwy _
theorem zqp:zcells.size=513:=by unfold zcells;simp
theorem zzU:¬zcells= #[]:=by intro e;have h:=zqp;rw[e]at h;cases h
theorem zwA(w:World):(zeroValue 189).run prog w= .ok (.agg zcells) w:=oM
def POk(R:Nat)(G:Nat->Int)(L:Nat->Bool):Prop:=R<=256/\(∀i,0<=G i/\G i<=65536)/\∀i,L i=true->i<R/\G i<=65535
theorem POk.gen{R:Nat}(h:POk R G L):ztg G:=λi _=>by have:=h.2.1 i;omega
theorem POk.zero{R:Nat}(h:R<=256):POk R z0 n0:=⟨h,λi=>by unfold z0;omega,λi hi=>by cases hi⟩
theorem zlB{R:Nat}(h:tkI G L R=some i):i<R/\L i=false/\G i<=65535:=by
 unfold tkI at h;have h1:=find?_some h;have h2:=mem_of_find?_eq_some h;unfold zgJ at h1;simp at h1 h2;exact⟨h2,h1.1,h1.2⟩
theorem POk.take{R:Nat}(h:POk R G L):POk R G (tkL G L R):=by
 unfold tkL
 cases e:tkI G L R with
 | none=>exact h
 | some i=>
  obtain⟨hi,_,hg⟩:=zlB e;refine⟨h.1,h.2.1,λj hj=> ?_⟩;unfold upd at hj
  by_cases c:j=i
  ·rw[c];exact⟨hi,hg⟩
  ·simp only[if_neg c]at hj;exact h.2.2 j hj
theorem zgK(h:zbO G L x=true):∃i:Nat,i<256/\(x % 256).toNat=i/\L i=true/\x=nm (G i) i:=by
 unfold zbO at h;have h3:zeo x=true/\L (x % 256).toNat=true/\G (x % 256).toNat=x / 256:=by simpa using h
 refine⟨_,om,rfl,h3.2.1,?_⟩;rw[h3.2.2];unfold nm;omega
theorem POk.drop{R:Nat}(h:POk R G L)(x:Int):POk R (drG G L x) (drL G L x):=by
 unfold drG drL
 by_cases c:zbO G L x=true
 ·rw[if_pos c,if_pos c];obtain⟨i,_,e,hl,_⟩:=zgK c;rw[e];refine⟨h.1,λj=> ?_,λj hj=> ?_⟩
  ·unfold upd
   by_cases d:j=i
   ·simp only[if_pos d];have:=h.2.1 i;have:=h.2.2 i hl;omega
   ·simp only[if_neg d];exact h.2.1 j
  ·unfold upd at hj ⊢
   by_cases d:j=i
   ·simp only[if_pos d]at hj;cases hj
   ·simp only[if_neg d]at hj ⊢;exact h.2.2 j hj
 ·rw[if_neg c,if_neg c];exact h
def l1:Nat->Bool:=tkL z0 n0 2
def l2:Nat->Bool:=tkL z0 l1 2
def l3:Nat->Bool:=tkL z0 l2 2
def g4:Nat->Int:=drG z0 l3 0
theorem zjX{w2:World}{base:Nat}(h:OwnD wr base v n zs)(hb:Bw wr w2):OwnD w2 base v n zs:=by
 refine⟨h.1,?_⟩;rcases h.2 with h0 | ⟨k,cap,cur,e,kj,hh,r⟩
 ·exact .inl h0
 ·refine .inr ⟨k,cap,cur,e,kj,?_,r⟩;rw[hb.block k (Array.getElem?_eq_some_iff.1 hh).1];exact hh
theorem zzV{q:Int}(hi:i<256)(h0:0<=q)(h1:q<=65535):zeo (nm q i)=true:=by unfold zeo nm;simp;omega
theorem zwB(hi:i<256)(h0:0<=G i)(h1:G i<=65535)(hl:L i=true):zbO G L (nm (G i) i)=true:=by
 unfold zbO;rw[zzV hi h0 h1,show (nm (G i) i % 256).toNat=i by unfold nm;omega,hl,show nm (G i) i / 256=G i by unfold nm;omega];simp
theorem zth{R:Nat}(hp:POk R G L)(h:x∈zd6 G L 256):zbO G L x=true:=by
 unfold zd6 at h;rw[mem_map]at h;obtain⟨i,hi,rfl⟩:=h;rw[mem_filter]at hi;exact zwB (by simpa using hi.1) (hp.2.1 i).1 (hp.2.2 i hi.2).2 hi.2
theorem zqq{R:Nat}(h:tkI G L R=none):tkV G L R=0/\tkE G L R=3/\tkL G L R=L:=by unfold tkV tkE tkL;rw[h];exact⟨rfl,rfl,rfl⟩
theorem zgL{R:Nat}(h:tkI G L R=some i):tkV G L R=nm (G i) i/\tkE G L R=0:=by unfold tkV tkE;rw[h];exact⟨rfl,rfl⟩
def upf{α:Type}(f:Nat->α)(k:Nat)(v:α)(j:Nat):α:=if j=k then v else f j
structure St where
 room:Nat
 G:Nat->Int
 L:Nat->Bool
 T:Nat->TR
 now:Int
 ch:List (Int × Int)
 go:List (Int × Int)
def St0(r:Nat):St:=⟨r,z0,n0,λ_=>[],1,[],[]⟩
def zca(ch:List (Int × Int))(id now:Int):List (Int × Int):=(ch.filter λx=>x.1 != id)++[(id,now)]
def atS(S:St)(id:Int):Option Nat:=(range 32).find? (λi=>zcX (S.T i) id)
def zcE(S:St)(id:Int):Bool:=(atS S id).isSome
def zby(S:St)(id:Int):PT:=match atS S id with | some i=>((S.T i).getD (zaB (S.T i) id).toNat d0).2 | none=>zT
def spE(S:St)(P:PT):Int:=if zay P then tkE S.G S.L S.room else 1
def spV(S:St)(P:PT):Int:=if spE S P=0 then tkV S.G S.L S.room else 0
def spS(S:St)(P:PT):St:=if spE S P=0 then { S with L:=tkL S.G S.L S.room,T:=upf S.T P.1.toNat (zjx P.1 (S.T P.1.toNat) (tkV S.G S.L S.room) P),ch:=zca S.ch (tkV S.G S.L S.room) S.now } else S
def deE(S:St)(id:Int):Int:=if zcE S id then 0 else 4
def deS(S:St)(id:Int):St:=match atS S id with
 | some i=>{ S with T:=upf S.T i (zec (S.T i) (zaB (S.T i) id)),G:=drG S.G S.L id,L:=drL S.G S.L id,go:=S.go++[(id,S.now)] }
 | none=>S
def zep(T:Nat->TR)(i:Nat)(id:Int)(P:PT):Nat->TR:=
 if i=P.1.toNat then upf T i (zhx i (T i) (zaB (T i) id) P)
 else upf (upf T i (zec (T i) (zaB (T i) id))) P.1.toNat (zjx P.1 (upf T i (zec (T i) (zaB (T i) id)) P.1.toNat) id P)
def zdD(S:St)(id:Int)(P:PT):St:=match atS S id with
 | some i=>{ S with T:=zep S.T i id P,ch:=zca S.ch id S.now }
 | none=>S
def puE(S:St)(id:Int)(Q:PT)(ks:List Int):Int:=if zcE S id then zfZ (zby S id) Q ks else 4
def puS(S:St)(id:Int)(Q:PT)(ks:List Int):St:=if puE S id Q ks=0 then zdD S id (zeG (zby S id) Q ks) else S
def cuE(S:St)(id:Int)(ks:List Int):Int:=if zcE S id then zek (zby S id) ks else 4
def cuS(S:St)(id:Int)(ks:List Int):St:=if cuE S id ks=0 then zdD S id (zf0 (zby S id) ks) else S
def zai(S:St)(id:Int):Bool:=zbO S.G S.L id
def to1(S:St)(id:Int):St:=if zai S id then { S with ch:=zca S.ch id S.now } else S
def toS(S:St)(l:List Int):St:=l.foldl to1 S
def toN(S:St)(l:List Int):Nat:=(l.filter (zai S)).length
def neS(S:St):St:={ S with now:=S.now+1 }
def zti(out:List Int)(x:Int):List Int:=out.takeWhile (λy=>decide (y<=x))++x::out.dropWhile (λy=>decide (y<=x))
def zbY(l:List Int):List Int:=l.foldl zti []
def chL(S:St)(since:Int):List Int:=zbY ((S.ch.filter λx=>zai S x.1 && decide (since<x.2)).map Prod.fst)
def goL(S:St)(since:Int):List Int:=zbY ((S.go.filter λx=>decide (since<x.2)).map Prod.fst)
def alS(S:St):List Int:=zd6 S.G S.L 256
def inS(S:St)(id:Int)(P:PT):Prop:=∃i,i<32/\(id,P)∈S.T i
theorem zbH{R:TR} :zcX R id=true↔∃P,(id,P)∈R:=by
 unfold zcX;rw[any_eq_true];constructor
 ·rintro⟨⟨x,P⟩,hx,e⟩;exact⟨P,by rw[<-beq_iff_eq.1 e];exact hx⟩
 ·rintro⟨P,hx⟩;exact⟨_,hx,by simp⟩
structure WS (S:St):Prop where
 nod:∀i,i<32->((S.T i).map Prod.fst).Nodup
 apart:∀i,i<32->∀j,j<32->i≠j->∀x P Q,(x,P)∈S.T i->(x,Q)∉S.T j
 fit:∀i,i<32->∀x∈S.T i,zbN i x.2=true
 live:∀x,zai S x=true↔∃P,inS S x P
 ok:POk S.room S.G S.L
theorem zwC{R:TR}(h:(R.map Prod.fst).Nodup){x:Int}{P Q:PT}(h1:(x,P)∈R)(h2:(x,Q)∈R):P=Q:=by
 obtain⟨i,hi,e1⟩:=mem_iff_getElem.1 h1;obtain⟨j,hj,e2⟩:=mem_iff_getElem.1 h2;have:=zix h hi hj (by rw[e1,e2]);subst this;rw[e1]at e2;injection e2
theorem WS.inj{S:St}(h:WS S){x:Int}{P Q:PT}(h1:inS S x P)(h2:inS S x Q):P=Q:=by
 obtain⟨i,hi,m1⟩:=h1;obtain⟨j,hj,m2⟩:=h2
 by_cases c:i=j
 ·subst c;exact zwC (h.nod i hi) m1 m2
 ·exact absurd m2 (h.apart i hi j hj c x P Q m1)
theorem zcY{S:St}(h:atS S id=some i):i<32/\zcX (S.T i) id=true:=by
 have h1:=find?_some h;have h2:=mem_of_find?_eq_some h;exact⟨mem_range.1 h2,h1⟩
theorem zqr{S:St}(h:atS S id=none):∀P,¬inS S id P:=by
 rintro P ⟨i,hi,hm⟩;have:=find?_eq_none.1 h i (mem_range.2 hi);exact this (zbH.2 ⟨P,hm⟩)
theorem zd7{S:St} :zcE S id=true↔∃P,inS S id P:=by
 unfold zcE;constructor
 ·intro h;obtain⟨i,hi⟩:=Option.isSome_iff_exists.1 h;obtain⟨h1,h2⟩:=zcY hi;obtain⟨P,hP⟩:=zbH.1 h2;exact⟨P,i,h1,hP⟩
 ·rintro⟨P,hP⟩
  cases c:atS S id with
  | none=>exact absurd hP (zqr c P)
  | some i=>rfl
theorem zgM{S:St}(h:WS S){id:Int}{i:Nat}(ha:atS S id=some i):(id,zby S id)∈S.T i:=by
 obtain⟨h1,h2⟩:=zcY ha;obtain⟨P,hP⟩:=zbH.1 h2;obtain⟨f1,f2⟩:=zmX (h.nod i h1) hP;unfold zby;rw[ha];simp only[f2];exact hP
theorem WS.get{S:St}(h:WS S){id:Int}{P:PT}(hP:inS S id P):zby S id=P:=by
 cases c:atS S id with
 | none=>exact absurd hP (zqr c P)
 | some i=>exact h.inj ⟨i,(zcY c).1,zgM h c⟩ hP
theorem zdt:zbN i P=true↔zay P=true/\P.1=(i:Int):=by unfold zbN;rw[Bool.and_eq_true,beq_iff_eq]
theorem zdP(h:zay P=true):P.1.toNat<32/\((P.1.toNat:Nat):Int)=P.1/\0<=P.1/\P.1<=31:=by
 unfold zay zeF at h;simp only[Bool.and_eq_true,decide_eq_true_eq]at h;omega
theorem zqs{R:TR}(hf:zbN s P=true)(hn:zcX R id=false):zjx s R id P=R++[(id,P)]:=by
 unfold zjx zpp;rw[hf,hn];rfl
theorem zga{R:TR}(h:(R.map Prod.fst).Nodup)(hh:zcX R id=true):∃ (i:Nat) (hi:i<R.length),zaB R id=(i:Int)/\R[i].1=id/\inR R (zaB R id)=true:=by
 obtain⟨P,hP⟩:=zbH.1 hh;obtain⟨f1,f2⟩:=zmX h hP;obtain⟨i,hi,e1,e2⟩:=zte f1;refine⟨i,hi,e1,?_,f1⟩;rw[<-e2,f2]
theorem zqt{R:TR}(h:(R.map Prod.fst).Nodup)(hh:zcX R id=true){x:Int × PT}:x∈zec R (zaB R id)↔x∈R/\x.1≠id:=by
 obtain⟨i,hi,e1,e2,e3⟩:=zga h hh;have hp:=zhY h hi;have ec:zec R (zaB R id)=(R.set i (R.getD (R.length - 1) d0)).take (R.length - 1):=by unfold zec;rw[e3,e1];rfl
 rw[ec,<-hp.mem_iff,mem_filter,e2];simp
theorem zqu{R:TR}(h:(R.map Prod.fst).Nodup)(hh:zcX R id=true):((zec R (zaB R id)).map Prod.fst).Nodup:=by
 obtain⟨i,hi,e1,e2,e3⟩:=zga h hh;have hp:=zhY h hi;have ec:zec R (zaB R id)=(R.set i (R.getD (R.length - 1) d0)).take (R.length - 1):=by unfold zec;rw[e3,e1];rfl
 rw[ec];exact (hp.map Prod.fst).nodup_iff.1 (List.Nodup.sublist (List.Sublist.map _ filter_sublist) h)
theorem zqv{R:TR}(h:(R.map Prod.fst).Nodup)(hh:zcX R id=true)(hf:zbN s P=true):zhx s R (zaB R id) P=R.map (λx=>if x.1==id then (x.1,P) else x):=by
 obtain⟨i,hi,e1,e2,e3⟩:=zga h hh;have:=zwu h hi P;rw[e2]at this;rw[this];unfold zhx zqj;rw[hf,e3,e1];simp[getD,getElem?_eq_getElem hi,e2]
theorem zqw{R:TR}(h:(R.map Prod.fst).Nodup)(hh:zcX R id=true)(hf:zbN s P=true){x:Int × PT}:x∈zhx s R (zaB R id) P↔(x∈R/\x.1≠id)∨x=(id,P):=by
 rw[zqv h hh hf,mem_map];constructor
 ·rintro⟨y,hy,rfl⟩
  by_cases c:y.1=id
  ·right;rw[if_pos (by simpa using c),c]
  ·left;rw[if_neg (by simpa using c)];exact⟨hy,c⟩
 ·rintro (⟨h1,h2⟩ | rfl)
  ·exact⟨x,h1,by rw[if_neg (by simpa using h2)]⟩
  ·obtain⟨Q,hQ⟩:=zbH.1 hh;exact⟨_,hQ,by simp⟩
theorem zwD{R:TR}(h:(R.map Prod.fst).Nodup)(hh:zcX R id=true)(hf:zbN s P=true):((zhx s R (zaB R id) P).map Prod.fst).Nodup:=by
 rw[zqv h hh hf,map_map];have:(Prod.fst ∘ λx:Int × PT=>if x.1==id then (x.1,P) else x)=Prod.fst:=by
  funext x;simp only[Function.comp]
  split <;> rfl
 rw[this];exact h
end Go.Proofs.YtlibdcmcbinfnaaGreat
