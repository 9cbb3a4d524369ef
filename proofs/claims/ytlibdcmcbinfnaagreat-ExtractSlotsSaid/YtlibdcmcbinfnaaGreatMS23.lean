/- Lemmas. -/
import Derived.Test.YtlibdcmcbinfnaaGreatMS22
set_option maxHeartbeats 100000000
set_option maxRecDepth 1000000
namespace Go.Proofs.YtlibdcmcbinfnaaGreat
open _root_.Go.Proofs.Tryz List Nat
open Go.RowKit
variable{j i a:Nat}{X P S Q Z:List Rc}{v:Rc}
section
variable {α:Type}
def zkl(P S:List α)(v:α)(Q:List α)(j:Nat):List α:=P++(S.take j++v::S.drop j)++Q
theorem znq{P S Q:List α}{v:α}(hj:j<=S.length):(zkl P S v Q j).length=P.length+S.length+1+Q.length:=by
 unfold zkl;simp only[length_append,length_take,length_cons,length_drop];omega
theorem zw2{P S Q:List α}{v:α}(hj:j<=S.length):(zkl P S v Q j)[P.length+j]? =some v:=by
 have e:zkl P S v Q j=(P++S.take j)++v::(S.drop j++Q):=by unfold zkl;simp
 rw[e,show P.length+j=(P++S.take j).length by rw[length_append,length_take];omega];exact zvq _ _ _
theorem zhc{P S Q:List α}{v u:α}(hu:S[j]? =some u):zkl P S v Q (j+1)=(P++S.take j)++u::([]++v::(S.drop (j+1)++Q))/\zkl P S v Q j=(P++S.take j)++v::([]++u::(S.drop (j+1)++Q))/\(P++S.take j).length=P.length+j:=by
 obtain⟨hj,e⟩:=List.getElem?_eq_some_iff.1 hu;refine⟨?_,?_,by rw[length_append,length_take];omega⟩
 ·unfold zkl;rw[take_add_one,hu];simp
 ·unfold zkl;rw[drop_eq_getElem_cons hj,e];simp
theorem zro{P S Q:List α}{v u:α}(hu:S[j]? =some u):(zkl P S v Q (j+1))[P.length+j]? =some u:=by
 obtain⟨e,_,l⟩:=zhc (P:=P) (Q:=Q) (v:=v) hu;rw[e,<-l];exact zvq _ _ _
theorem zrp{P S Q:List α}{v u:α}(hu:S[j]? =some u):((zkl P S v Q (j+1)).set (P.length+(j+1)) u).set (P.length+j) v=zkl P S v Q j:=by
 obtain⟨e,e',l⟩:=zhc (P:=P) (Q:=Q) (v:=v) hu;have:=ztP (P++S.take j) u [] v (S.drop (j+1)++Q);rw[e,e',show P.length+(j+1)=(P++S.take j).length+1+([]:List α).length by rw[l];simp;omega,<-l];exact this
variable {key:α->Int}
theorem zw3{S:List α}{v:α}(hS:Asc key S)(h1:∀r∈S.take j,key r<=key v)(h2:∀r∈S.drop j,key v<=key r):Asc key (S.take j++v::S.drop j):=by
 have C7:Asc key (S.take j++S.drop j):=by rw[take_append_drop];exact hS
 obtain⟨a1,a2,a3⟩:=pairwise_append.1 C7;refine pairwise_append.2 ⟨a1,pairwise_cons.2 ⟨h2,a2⟩,λa ha b hb=> ?_⟩;rcases mem_cons.1 hb with rfl | hb
 ·exact h1 a ha
 ·exact a3 a ha b hb
theorem zkm{S:List α}{v:α}(h2:∀r∈S.drop j,key v<key r):Fil key (S++[v]) (S.take j++v::S.drop j):=by
 have e:S++[v]=S.take j++(S.drop j++[v]):=by rw[<-append_assoc,take_append_drop]
 rw[e];refine (Fil.refl _).app (zrm λa ha b hb=> ?_);have:=h2 a ha;rw[mem_singleton.1 hb];omega
theorem zlV{S:List α}(hS:Asc key S){j:Nat}{u:α}(hu:S[j]? =some u):∀r∈S.take (j+1),key r<=key u:=λr hr=>by
 obtain⟨i,hi⟩:=List.mem_iff_getElem?.1 hr;have X5:i<j+1:=by
  obtain⟨h,_⟩:=List.getElem?_eq_some_iff.1 hi;rw[length_take]at h;omega
 rw[getElem?_take,if_pos X5]at hi;exact zkh hS om hi hu
theorem zlW{S:List α}(hS:Asc key S){j:Nat}{u:α}(hu:S[j]? =some u):∀r∈S.drop j,key u<=key r:=λr hr=>by
 obtain⟨i,hi⟩:=List.mem_iff_getElem?.1 hr;rw[getElem?_drop]at hi;exact zkh hS om hu hi
def zoF(X:List α)(i:Nat)(Y:List α):Prop:=Y.length=X.length/\∀p,p<X.length->Y[p]? =if p<i∨X.length<=p+i then X[X.length - 1 - p]? else X[p]?
theorem ztS(X:List α):zoF X 0 X:=⟨rfl,λp hp=>by rw[if_neg om]⟩
theorem ztT{X Y:List α}{x y:α}(h:zoF X i Y)(hj:j+i+1=X.length)(X5:i<j)(hx:Y[i]? =some x)(hy:Y[j]? =some y):zoF X (i+1) ((Y.set i y).set j x):=by
 have h1:=h.2 i om;have h2:=h.2 j om;rw[if_neg om]at h1 h2;refine⟨by simp[h.1],λp hp=> ?_⟩;rw[getElem?_set,getElem?_set]
 by_cases e1:j=p
 ·subst e1;rw[if_pos rfl,if_pos (by simp[h.1];omega),if_pos om,show X.length - 1 - j=i by omega,<-h1,hx]
 ·rw[if_neg e1]
  by_cases e2:i=p
  ·subst e2;rw[if_pos rfl,if_pos (by rw[h.1];omega),if_pos om,show X.length - 1 - i=j by omega,<-h2,hy]
  ·rw[if_neg e2,h.2 p hp]
   by_cases e3:p<i∨X.length<=p+i
   ·rw[if_pos e3,if_pos om]
   ·rw[if_neg e3,if_neg om]
theorem zw4{X Y:List α}(h:zoF X i Y)(hi:X.length<=2*i+1):Y=X.reverse:=by
 refine ext_getElem? λp=> ?_
 by_cases hp:p<X.length
 ·rw[getElem?_reverse hp,h.2 p hp]
  by_cases e:p<i∨X.length<=p+i
  ·rw[if_pos e]
  ·rw[if_neg e];congr 1;omega
 ·rw[getElem?_eq_none (by rw[h.1];omega),getElem?_eq_none (by simp;omega)]
end
theorem MR.len_big{w:World}{t:TypeId}{g:Nat}(h:MR 12 cRc t w g X):∀ {i:Nat} {x:Rc},X[i]? =some x->w.drew.rangeAt g (i*12) (cRc x)/\w.drew.there g (i*12) 12:=λhi=>by
 have h':MR 12 cRc t w.drew g X:=h.keep (zaH (Below.refl _ _));exact⟨h'.range zaC hi,h'.there (List.getElem?_eq_some_iff.1 hi).1⟩
theorem zb2(x:Rc):(cRc x).toArray.all (·.oneCell')=true:=all_oneCell_toArray (zcZ x)
theorem zw5(g n cap:Nat)(X:List Rc)(w:World)(hX:MR 12 cRc 92 w g X)(hn:X.length=n)(Hy:n<=1000000000):
  Calls prog 220 #[.slice (some ⟨g,0,none⟩) n cap] w λe w'=>e= .returned (.tuple #[])/\DR w 92 g w' X.reverse:=by
 have H0:Hid (DR w 92 g w X/\zoF X 0 X):=kA ⟨DR.start hX,ztS X⟩;have kG:=kA hn;clear hX hn;go_enter func220,ntmps220;go_wp2
 go_loopw [2,3] (λi j wr=>∃ (t:Nat) (Y:List Rc),i= .int .i64 t/\j= .int .i64 ((n:Int) - 1 - (t:Int))/\2*t<=n+1/\DR w 92 g wr Y/\zoF X t Y) (λi _ _=>n+1 - (ivl i).toNat)
 case atStart=>exact⟨0,X,rfl,by go_num,om,H0.1,H0.2⟩
 case round=>
  clear H0;obtain⟨t,Y,rfl,rfl,ht,hd,hr⟩:=hrel;have HD:=kA hd;have dQ:=kA hr;clear hd hr
  by_cases hlt:(t:Int)<(n:Int) - 1 - (t:Int)
  ·have hl:Y.length=n:=dQ.1.trans kG;obtain⟨j,hj⟩:∃j:Nat,j+t+1=n:=⟨n - 1 - t,om⟩;have ej:(n:Int) - 1 - (t:Int)=(j:Int):=om;rw[ej]at hlt ⊢;have hx:Y[t]? =some (Y[t]'(by omega)):=getElem?_eq_getElem om;have hy:Y[j]? =some (Y[j]'(by omega)):=getElem?_eq_getElem om;obtain⟨x,ex⟩:∃x,x=Y[t]'(by omega):=⟨_,rfl⟩;obtain⟨y,ey⟩:∃y,y=Y[j]'(by omega):=⟨_,rfl⟩;rw[<-ex]at hx;rw[<-ey]at hy;have HR:=kA (HD.1.len_big hx);have qo:=kA (HD.1.len_big hy)
   have HN:Hid (∀W,W=((wr.drew.setCells g (t*12) (cRc y)).setCells g (j*12) (cRc x))->DR w 92 g W ((Y.set t y).set j x)):=kA (λW e=>by
    rw[e]
    exact HD.swap om om x y)
   have vu:=kA (ztT dQ (by rw[kG.out];exact hj) om hx hy);have p0:(0:Int)<=(t:Int):=om;have p1:(t:Int)<(n:Int):=om;have q0:(0:Int)<=(j:Int):=om;have q1:(j:Int)<(n:Int):=om;have HJ:=kA hj;have Nv:=kA ej;clear hx hy HD ex ey hl hj ej;go_upto_region 3 with fail;refine ztR (p:=t) (q:=j) (Xp:=cRc x) (Xq:=cRc y) (λ_ _ d _ _ h=>by cases d <;> exact h) p0 p1 q0 q1 rfl rfl (zb2 _) (zb2 _) HR.1 qo.1 HR.2 qo.2 ?_
   intro W hW;have dl:=kA (HN W hW);clear hW HN HR qo;go_wp2;go_roundw
   case rel=>exact⟨t+1,_,by go_num,by have:=HJ.out;go_num,by have:=HJ.out;omega,dl.out,vu⟩
   case measure=>simp[ivl] <;> omega
  ·have HEq:=kA (zw4 dQ (by rw[kG.out];omega));go_wp2;go_end0;exact⟨rfl,by rw[<-HEq.out];exact HD.out⟩
theorem AscIn.less{α:Type}{key:α->Int}{X:List α}{lo hi eF hi':Nat}(h:AscIn key X lo hi)(h1:lo<=eF)(h2:hi'<=hi):AscIn key X eF hi':=λi j a b q1 q2 q3 ha hb=>h i j a b om q2 om ha hb
structure InsAt (X:List Rc) (a i j:Nat) (P S:List Rc) (v:Rc) (Q Z:List Rc):Prop where
 x:X=zkl P S v Q S.length
 z:Z=zkl P S v Q (j - a)
 lp:P.length=a
 ls:S.length=i - a
 aj:a<=j
 ji:j<=i
 asc:Asc Rc.id S
 above:∀r∈S.drop (j - a),v.id<r.id
theorem zlX(S8:a<=i)(hi:i<X.length)(h:AscIn Rc.id X a i):∃P S v Q,InsAt X a i i P S v Q X:=by
 obtain⟨e,l1,l2⟩:=zAa (X:=X) S8 om;have ed:X.drop i=X[i]::X.drop (i+1):=drop_eq_getElem_cons hi;rw[ed]at e;refine⟨X.take a,(X.drop a).take (i - a),X[i],X.drop (i+1),?_⟩;have ez:X=zkl (X.take a) ((X.drop a).take (i - a)) X[i] (X.drop (i+1)) ((X.drop a).take (i - a)).length:=by
  unfold zkl;rw[take_length,drop_length];rw[append_assoc,append_assoc,singleton_append,<-append_assoc];exact e
 exact⟨ez,by have q:=ez;rw[l2]at q;exact q,l1,l2,S8,Nat.le_refl _,h.out,λr hr=>by rw[drop_of_length_le om]at hr;cases hr⟩
theorem InsAt.at_(h:InsAt X a i j P S v Q Z):Z[j]? =some v:=by
 have:=zw2 (P:=P) (Q:=Q) (v:=v) (S:=S) (j:=j - a) (by rw[h.ls];have:=h.ji;omega);rw[h.z,show j=P.length+(j - a) by rw[h.lp];have:=h.aj;omega,show P.length+(j - a) - a=j - a by rw[h.lp];omega];exact this
theorem InsAt.prev(h:InsAt X a i (j+1) P S v Q Z)(hj:a<=j):∃u,Z[j]? =some u/\S[j - a]? =some u:=by
 have hs:j - a<S.length:=by rw[h.ls];have:=h.ji;omega
 have e:S[j - a]? =some S[j - a]:=getElem?_eq_getElem hs;refine⟨_,?_,e⟩;have:=zro (P:=P) (Q:=Q) (v:=v) e;rw[h.z,show j+1 - a=j - a+1 by omega];rw[h.lp,show a+(j - a)=j by omega]at this;exact this
theorem InsAt.down{u:Rc}(h:InsAt X a i (j+1) P S v Q Z)(hj:a<=j)(hu:S[j - a]? =some u)(hlt:v.id<u.id):InsAt X a i j P S v Q ((Z.set (j+1) u).set j v):=by
 refine⟨h.x,?_,h.lp,h.ls,hj,by have:=h.ji;omega,h.asc,λr hr=> ?_⟩
 ·have:=zrp (P:=P) (Q:=Q) (v:=v) hu;rw[h.lp,show a+(j - a+1)=j+1 by omega,show a+(j - a)=j by omega,show j - a+1=j+1 - a by omega,<-h.z]at this;exact this
 ·have:=zlW h.asc hu r hr;omega
theorem InsAt.fin(h:InsAt X a i j P S v Q Z)(hs:∀r∈S.take (j - a),r.id<=v.id):SStep Rc.id X Z a (i+1)/\AscIn Rc.id Z a (i+1):=by
 have hA:Asc Rc.id (S.take (j - a)++v::S.drop (j - a)):=zw3 h.asc hs (λr hr=>Int.le_of_lt (h.above r hr));have hF:Fil Rc.id (S++[v]) (S.take (j - a)++v::S.drop (j - a)):=zkm h.above;have hl:(S.take (j - a)++v::S.drop (j - a)).length=(S++[v]).length:=by
  simp only[length_append,length_take,length_cons,length_drop,length_nil];omega
 have e1:P.length+(S++[v]).length=i+1:=by rw[h.lp,length_append,h.ls];simp;have:=h.aj;have:=h.ji;omega
 have ex:X=P++(S++[v])++Q:=by rw[h.x];unfold zkl;rw[take_length,drop_length]
 have ND:=SStep.mid (key:=Rc.id) (P:=P) (Q:=Q) hl hF;have Yl:=AscIn.mid (key:=Rc.id) (P:=P) (Q:=Q) hA;rw[e1,h.lp,<-ex]at ND;rw[hl,e1,h.lp]at Yl;rw[h.z];exact⟨ND,Yl⟩
theorem zaN(x:Rc):(prog.info? 92).map (·.size)=some (cRc x).length:=by
 rw[zaC];kernel_rfl
theorem zw6(g n cap a b:Nat)(X:List Rc)(w:World)(hX:MR 12 cRc 92 w g X)(hn:X.length=n)(Hy:n<=1000000000)(hab:a<=b)(hb:b<=n):
  Calls prog 293 #[.slice (some ⟨g,0,none⟩) n cap,.int .i64 a,.int .i64 b,.func (.func 222) #[] #[]] w λe w'=>e= .returned (.tuple #[])/\∃Y,DR w 92 g w' Y/\SStep Rc.id X Y a b/\AscIn Rc.id Y a b:=by
 have H0:Hid (DR w 92 g w X):=kA (DR.start hX);have kG:=kA hn;have hE:=zkk
 unfold zbs at hE;clear hX hn;go_enter func293,ntmps293;go_wp2
 go_loopw [8,9] (λv8 v9 wr=>∃ (i:Nat) (Y:List Rc),v8= .int .i64 i/\a+1<=i/\(i<=b∨i=a+1)/\DR w 92 g wr Y/\SStep Rc.id X Y a b/\AscIn Rc.id Y a i) (λv8 _ _=>b+1 - (ivl v8).toNat)
 case atStart=>exact⟨a+1,X,by go_num,Nat.le_refl _,.inr rfl,H0.out,SStep.refl _ _ _,AscIn.one _ om⟩
 case round=>
  clear H0;obtain⟨i,Y,rfl,jN,qp,hd,hs,ha⟩:=hrel;have HD:=kA hd;have jO:=kA hs;have HA:=kA ha;clear hd hs ha
  by_cases hlt:i<b
  ·have hl:Y.length=n:=jO.len.trans kG;obtain⟨P,S,v,Q,CN⟩:=zlX (X:=Y) (a:=a) (i:=i) om om HA;have CO:=kA CN;have HL:=kA hl;clear CN hl HA;have i1:(i:Int)<(b:Int):=om;go_wp2
   go_loopw [9] (λv9 wr=>∃ (j:Nat) (Z:List Rc),v9= .int .i64 j/\a<=j/\j<=i/\DR w 92 g wr Z/\InsAt Y a i j P S v Q Z) (λv9 _=>(ivl v9).toNat)
   case atStart=>exact⟨i,Y,rfl,om,Nat.le_refl _,HD.out,CO⟩
   case round=>
    clear HD CO;obtain⟨j,Z,rfl,Nw,bA,hd,CN⟩:=hrel;have HD:=kA hd;have CO:=kA CN;clear hd CN
    by_cases hj:a<j
    ·obtain⟨q,rfl⟩:∃q,j=q+1:=⟨j - 1,om⟩;obtain⟨u,jP,vv⟩:=CO.prev om;have jQ:=CO.at_;have yY:Z.length=n:=by rw[CO.z,znq (by rw[CO.ls];omega),<-HL.out,CO.x,znq (Nat.le_refl _)]
     have HR:=kA (HD.1.len_big jQ);have qo:=kA (HD.1.len_big jP);have HS:Hid (∀W,Bw wr W->W.rangeAt g ((q+1)*12) (cRc v)/\W.rangeAt g (q*12) (cRc u)):=kA (λW hb=>⟨(HD.below hb).1.range zaC jQ,(HD.below hb).1.range zaC jP⟩);have Kj:Hid (∀W,Calls prog 222 #[.agg (cRc v).toArray,.agg (cRc u).toArray] W λe w'=>e= .returned (.int .i64 (zfZ v.id u.id))/\Bw W w'):=kA (λW=>zvt v u W);have Hb:Hid (((prog.info? 92).map (·.size)=some (cRc v).length)/\((prog.info? 92).map (·.size)=some (cRc u).length)):=kA ⟨zaN v,zaN u⟩
     have HN:Hid (∀W W',Bw wr W->W'=((W.drew.setCells g ((q+1)*12) (cRc u)).setCells g (q*12) (cRc v))->DR w 92 g W' ((Z.set (q+1) u).set q v)):=kA (λW W' hb e=>by
      rw[e]
      exact (HD.below hb).swap om om v u)
     have vw:Hid (∀W,Bw wr W->DR w 92 g W Z):=kA (λW hb=>HD.below hb);have qq:Hid (∀W,Bw wr W->(W.drew.rangeAt g ((q+1)*12) (cRc v)/\W.drew.there g ((q+1)*12) 12)/\(W.drew.rangeAt g (q*12) (cRc u)/\W.drew.there g (q*12) 12)):=kA (λW hb=>⟨(HD.below hb).1.len_big jQ,(HD.below hb).1.len_big jP⟩)
     have xD:Hid (u.id<=v.id->SStep Rc.id Y Z a (i+1)/\AscIn Rc.id Z a (i+1)):=kA (λhle=>CO.fin (λr hr=>by
      have e:q+1 - a=q - a+1:=om;rw[e]at hr;have:=zlV CO.asc vv r hr
      omega))
     have Ce:Hid (v.id<u.id->InsAt Y a i q P S v Q ((Z.set (q+1) u).set q v)):=kA (λh=>CO.down om vv h);have Dk:Hid (zfZ v.id u.id<0↔v.id<u.id):=kA zlT;obtain⟨XP,KS⟩:∃XP,XP=cRc v:=⟨_,rfl⟩;obtain⟨XQ,dL⟩:∃XQ,XQ=cRc u:=⟨_,rfl⟩;have ca:Hid (XP.length=12/\XQ.length=12/\XP.toArray.all (·.oneCell')=true/\XQ.toArray.all (·.oneCell')=true):=kA (by rw[KS,dL];exact⟨rfl,rfl,zb2 _,zb2 _⟩);rw[<-KS,<-dL]at Kj Hb HN qq HS;obtain⟨cc,KU⟩:∃cc,cc=zfZ v.id u.id:=⟨_,rfl⟩;rw[<-KU]at Kj Dk;clear KS dL jP vv jQ yY HR qo HD CO KU;have Cz:IntKind.i64.wrap (((q+1:Nat):Int) - 1)=(q:Int):=by rw[show ((q+1:Nat):Int) - 1=(q:Int) by omega];exact IntWalk.i64_in _ om
     obtain⟨p,hp⟩:∃p,p=q+1:=⟨_,rfl⟩;rw[<-hp]at Cz hj bA HS HN qq Ce ⊢;have p0:(0:Int)<=(p:Int):=om;have p1:(p:Int)<(n:Int):=om;have q0:(0:Int)<=(q:Int):=om;have q1:(q:Int)<(n:Int):=om;have pa:(a:Int)<(p:Int):=om;have HP:=kA hp;clear hp;go_wp2_with fail;refine wp_region_held_drew (S:=λw'=>w'.rangeAt g (p*12) XP/\w'.rangeAt g (q*12) XQ) oM (HS _ (zaH (Below.refl _ _))) (λhHeld=> ?_);refine tk 0 hHeld ?_;refine tk 1 hHeld ?_;refine tk 2 hHeld ?_;refine tk 3 hHeld ?_;refine tk 4 hHeld ?_;refine tk 5 hHeld ?_;refine tk 6 hHeld ?_;refine tk 7 hHeld ?_;refine tkl 8 rfl (yieldsIf_load_mid (by rfl) _ _ rfl _ _ rfl _ _ (λ_ h=>h.1) underlying92 rfl Hb.1) hHeld ?_;refine tk 9 hHeld ?_;refine tk 10 hHeld ?_;refine tk 11 hHeld ?_;refine tk 12 hHeld ?_;refine tkl 13 rfl (yieldsIf_load_mid (by rfl) _ _ rfl _ _ rfl _ _ (λ_ h=>h.2) underlying92 rfl Hb.2) hHeld ?_;refine rd 14 (λK hK=> ?_);go_simp;refine (Kj _).mono ?_;rintro e w1 ⟨rfl,b1⟩;go_wp2_with fail;refine hK.out _ _ (HS _ (zad (zaH (Below.refl _ _)) b1)) (λhHeld=> ?_);clear hK K;refine tk 15 hHeld ?_;refine tk 16 hHeld ?_;refine wpAnyH_done oM ?_ _;clear hHeld;refine fin (λW=>Bw wr W) (zad (zaH (Below.refl _ _)) b1) ?_;clear b1 HS Kj;rintro W Kq;have da:=kA Kq;clear Kq
     by_cases hc:cc<0
     ·have Da:v.id<u.id:=Dk.1 hc;have xE:=kA (qq W da);have Yz:=kA (λW'=>HN.out W W' da);have jR:=kA (Ce Da);clear qq HN Ce xD vw Da;go_upto_region 6 with fail;refine ztQ (p:=p) (q:=q) (Xp:=XP) (Xq:=XQ) (λ_ _ d _ _ h=>by cases d <;> exact h) Cz p0 p1 q0 q1 ca.1 ca.2.1 ca.2.2.1 ca.2.2.2 xE.1.1 xE.2.1 xE.1.2 xE.2.2 ?_
      intro W' hW;have dl:=kA (Yz W' hW);clear hW Yz xE;go_wp2;go_roundw
      case rel=>exact⟨q,_,by go_num,by have:=HP.out;omega,by have:=HP.out;omega,dl.out,jR⟩
      case measure=>have:=HP.out;simp[ivl] <;> omega
     ·have Hu:=kA (xD (by have:=Dk.out;omega));have dl:=kA (vw W da);clear qq HN Ce xD vw;go_wp2;go_roundw
      case rel=>exact⟨i+1,Z,by go_num,om,om,dl.out,jO.trans (Hu.1.wide (Nat.le_refl _) om),Hu.2⟩
      case measure=>simp[ivl] <;> omega
    ·obtain rfl:j=a:=om;have Hu:=kA (CO.fin (λr hr=>by rw[Nat.sub_self]at hr;simp at hr));have pa:¬(j:Int)<(j:Int):=om;go_wp2_with fail;refine wp_region_held_drew (S:=λ_=>True) oM (trivial) (λhHeld=> ?_);refine tk 0 hHeld ?_;refine tk 1 hHeld ?_;refine tk 2 hHeld ?_;refine tk 3 hHeld ?_;refine tks 4 hHeld ?_;refine tks 5 hHeld ?_;refine tks 6 hHeld ?_;refine tks 7 hHeld ?_;refine tks 8 hHeld ?_;refine tks 9 hHeld ?_;refine tks 10 hHeld ?_;refine tks 11 hHeld ?_;refine tks 12 hHeld ?_;refine tks 13 hHeld ?_;refine tks 14 hHeld ?_;refine tks 15 hHeld ?_;refine tk 16 hHeld ?_;refine wpAnyH_done oM ?_ _;clear hHeld;refine fin (λW=>Bw wr W) (zaH (Below.refl _ _)) ?_;rintro W Kq;have dl:=kA (HD.below Kq);clear Kq HD;go_wp2;go_roundw
     case rel=>exact⟨i+1,Z,by go_num,om,om,dl.out,jO.trans (Hu.1.wide (Nat.le_refl _) om),Hu.2⟩
     case measure=>simp[ivl] <;> omega
  ·have i1:¬(i:Int)<(b:Int):=om;go_wp2;go_end0;exact⟨rfl,Y,HD.out,jO.out,HA.less (Nat.le_refl _) om⟩
structure RotAt (T:List Rc) (m i j:Nat) (P A B Q:List Rc):Prop where
 t:P++(B++A)++Q=T
 lp:P.length+i=m
 la:A.length=i
 lb:B.length=j
 i0:0<i
 j0:0<j
end Go.Proofs.YtlibdcmcbinfnaaGreat
