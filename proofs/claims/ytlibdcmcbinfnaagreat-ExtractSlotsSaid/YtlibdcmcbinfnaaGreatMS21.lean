/- Lemmas. -/
import Derived.Test.YtlibdcmcbinfnaaGreatMS20
set_option maxHeartbeats 100000000
set_option maxRecDepth 1000000
namespace Go.Proofs.YtlibdcmcbinfnaaGreat
open _root_.Go.Proofs.Tryz List Nat
open Go.RowKit
theorem zri(S:St)(x y:Int):zai (to1 S x) y=zai S y:=by unfold to1;split <;> rfl
theorem zce:∀ (l:List Int) (S:St) (y:Int),zai (toS S l) y=zai S y
 | [],_,_=>rfl
 | x::l,S,y=>(zce l (to1 S x) y).trans (zri S x y)
structure Sc where
 S:St
 L:FT
def Sc0(r:Nat):Sc:=⟨St0 r,[]⟩
def noP(S:St)(p:Int):Bool:=decide (0<=p) && !zai S p
def zni(X:Sc)(P:PT)(p:Int):Int:=if noP X.S p then 4 else spE X.S P
def znj(X:Sc)(P:PT)(p:Int):Int:=if noP X.S p then 0 else spV X.S P
def zez(X:Sc)(P:PT)(p:Int):Sc:=if noP X.S p then X else ⟨spS X.S P,if spE X.S P=0/\0<=p then zbD X.L (spV X.S P) p else X.L⟩
def zfO(X:Sc)(id:Int):Sc:=if deE X.S id=0 then ⟨toS (deS X.S id) (chF X.L id),zcK X.L id⟩ else X
def znk(X:Sc)(id:Int)(Q:PT)(ks:List Int):Sc:=⟨puS X.S id Q ks,X.L⟩
def zoD(X:Sc)(id:Int)(ks:List Int):Sc:=⟨cuS X.S id ks,X.L⟩
def zjs(X:Sc)(c p:Int):Int:=if zai X.S c && zai X.S p then zbq X.L c p else 4
def zfX(X:Sc)(c p:Int):Sc:=if zjs X c p=0 then ⟨toS X.S [c],zbD X.L c p⟩ else X
def ztM(X:Sc)(c:Int):Int:=if zai X.S c then 0 else 4
def zha(X:Sc)(c:Int):Sc:=if zai X.S c then ⟨if (zak X.L c).isSome then toS X.S [c] else X.S,zaG X.L c⟩ else X
def zfY(X:Sc):Sc:=⟨neS X.S,X.L⟩
def zaS(X:Sc)(id:Int):Nd:=if zcF X.S id then ⟨id,(zak X.L id).getD (-1),if zcl (zby X.S id).1 0 then (zby X.S id).2.1 else zcx,zcl (zby X.S id).1 4⟩ else ⟨0,0,λ_=>0,false⟩
variable{L:FT}{x c p z id:Int}{q:Int × Int}{S:St}{P:PT}{i r m k lo hi g:Nat}{X I0:Sc}{w w' dN:World}{t:TypeId}
theorem zeY:q∈zaG L x↔q∈L/\q.1≠x:=by
 unfold zaG;rw[mem_filter];simp
theorem zkf:∀ (xs:List Int) {L:FT} {q:Int × Int},q∈zay L xs↔q∈L/\q.1∉xs
 | [],L,q=>by unfold zay;simp
 | x::xs,L,q=>by
  show q∈zay (zaG L x) xs↔_;rw[zkf xs,zeY,mem_cons,not_or,and_assoc]
theorem zrj(hn:(L.map Prod.fst).Nodup){x:Int}{q:Int × Int}(h:q∈zcK L x):q∈L/\q.1≠x/\q.2≠x:=by
 unfold zcK at h;obtain⟨h1,h2⟩:=(zkf _).1 h;obtain⟨h3,h4⟩:=zeY.1 h1;refine⟨h3,h4,λe=>h2 ?_⟩;obtain⟨a,b⟩:=q;rw[zaA hn];rw[zcG hn h3];exact congrArg some e
theorem zh1:∀ (xs:List Int) (L:FT) (z:Int),zak (zay L xs) z=if z∈xs then none else zak L z
 | [],L,z=>by unfold zay;simp
 | x::xs,L,z=>by
  show zak (zay (zaG L x) xs) z=_;rw[zh1 xs,za7]
  by_cases c1:z∈xs
  ·rw[if_pos c1,if_pos (mem_cons_of_mem _ c1)]
  ·rw[if_neg c1]
   by_cases c2:z=x
   ·rw[if_pos c2,if_pos (by rw[c2];exact mem_cons_self)]
   ·rw[if_neg c2,if_neg (λm=>(mem_cons.1 m).elim c2 c1)]
theorem ztN(x z:Int):zak (zcK L x) z=if z∈chF L x∨z=x then none else zak L z:=by
 unfold zcK;rw[zh1,za7]
 by_cases c1:z∈chF L x
 ·rw[if_pos c1,if_pos (.inl c1)]
 ·rw[if_neg c1]
  by_cases c2:z=x
  ·rw[if_pos c2,if_pos (.inr c2)]
  ·rw[if_neg c2,if_neg (λm=>m.elim c1 c2)]
theorem ziX{α:Type}(p q:α->Bool)(l:List α)(h:∀x∈l,p x=true->q x=false):(l.filter p).length+(l.filter q).length<=l.length:=by
 induction l with
 | nil=>simp
 | cons a l ih=>
  have h2:=ih (λx hx=>h x (mem_cons_of_mem _ hx));have h3:=h a mem_cons_self
  cases c1:p a with
  | true=>rw[filter_cons_of_pos c1,filter_cons_of_neg (by rw[h3 c1];decide),length_cons,length_cons];omega
  | false=>
   rw[filter_cons_of_neg (by rw[c1];decide)]
   cases c2:q a with
   | true=>rw[filter_cons_of_pos c2,length_cons,length_cons];omega
   | false=>rw[filter_cons_of_neg (by rw[c2];decide),length_cons];omega
theorem zfP:∀ (xs:List Int) (L:FT),zay L xs=L.filter (λq=> !decide (q.1∈xs))
 | [],L=>by
  rw[List.filter_eq_self.2 (λq _=>by simp)];rfl
 | x::xs,L=>by
  show zay (zaG L x) xs=_;rw[zfP xs];unfold zaG;rw[filter_filter];refine filter_congr (λq _=> ?_)
  by_cases c:q.1=x <;> simp[c]
theorem zrk(hn:(L.map Prod.fst).Nodup)(x:Int):(chF L x).length+(zcK L x).length<=L.length:=by
 have e1:(chF L x).length=(L.filter (λp=>p.2==x)).length:=by unfold chF;rw[zf9,length_map]
 have e2:(zcK L x).length<=(L.filter (λq=> !decide (q.1∈chF L x))).length:=by
  unfold zcK;rw[zfP];unfold zaG;rw[filter_filter];have e3:L.filter (λq=> !decide (q.1∈chF L x) && (q.1 != x))=(L.filter (λq=> !decide (q.1∈chF L x))).filter (λq=>q.1 != x):=by
   rw[filter_filter];exact filter_congr (λq _=>Bool.and_comm _ _)
  rw[e3];exact length_filter_le _ _
 rw[e1];refine Nat.le_trans (Nat.add_le_add_left e2 _) (ziX _ _ L (λq hq h=> ?_));have:q.1∈chF L x:=by
  rw[zaA hn,zcG hn (show (q.1,q.2)∈L from hq)];exact congrArg some (by simpa using h)
 simp[this]
theorem znl(L:FT)(c p:Int):(zbD L c p).length<=L.length+1:=by
 unfold zbD
 split
 ·unfold setF;rw[length_append];have:=zeP L c;simp;exact this
 ·omega
theorem znm(h:q∈zbD L c p):q∈L∨q=(c,p):=by
 unfold zbD at h
 split at h
 ·unfold setF at h;rcases mem_append.1 h with m | m
  ·exact .inl (zeY.1 m).1
  ·exact .inr (by simpa using m)
 ·exact .inl h
theorem znn(hz:z≠c):zak (zbD L c p) z=zak L z:=by
 unfold zbD
 split
 ·rw[zbX,if_neg hz]
 ·rfl
def CH(since:Int)(S:St)(x:Int):Prop:=∃t,(x,t)∈S.ch/\since<t
theorem zdV(h:WS S){x:Int}:zai S x=zcF S x:=by
 rw[Bool.eq_iff_iff,zd4];exact h.live x
theorem zfv(h:WS S){P:PT}(he:spE S P=0)(x:Int):zai (spS S P) x=true↔zai S x=true∨x=spV S P:=by
 obtain⟨w1,w2,w3⟩:=ziv h he;rw[w1.live,h.live];constructor
 ·rintro⟨Q,hQ⟩;rcases (w3 x Q).1 hQ with ⟨a,_⟩ | ⟨a,_⟩
  ·exact .inl ⟨Q,a⟩
  ·exact .inr a
 ·rintro (⟨Q,hQ⟩ | e)
  ·refine⟨Q,(w3 x Q).2 (.inl ⟨hQ,λe=> ?_⟩)⟩;have:zai S x=true:=(h.live x).2 ⟨Q,hQ⟩;rw[e,w2]at this
   cases this
  ·exact⟨P,(w3 x P).2 (.inr ⟨e,rfl⟩)⟩
theorem zno(h:WS S){id:Int}{i:Nat}(ha:atS S id=some i){P:PT}(hr:zaz P=true)(x:Int):zai (zdA S id P) x=zai S x:=by
 obtain⟨w1,w2⟩:=zqx h ha hr;have hl:∃P,inS S id P:=zd4.1 (by unfold zcF;rw[ha];rfl);rw[Bool.eq_iff_iff,w1.live,h.live];constructor
 ·rintro⟨Q,hQ⟩;rcases (w2 x Q).1 hQ with ⟨a,_⟩ | ⟨a,_⟩
  ·exact⟨Q,a⟩
  ·rw[a];exact hl
 ·rintro⟨Q,hQ⟩
  by_cases c:x=id
  ·exact⟨P,(w2 x P).2 (.inr ⟨c,rfl⟩)⟩
  ·exact⟨Q,(w2 x Q).2 (.inl ⟨hQ,c⟩)⟩
theorem zlO(h:WS S)(id:Int)(Q:PT)(ks:List Int)(x:Int):zai (puS S id Q ks) x=zai S x:=by
 unfold puS
 split
 ·rename_i he
  obtain⟨i,ha,hr⟩:=zwx he;exact zno h ha hr x
 ·rfl
theorem zlP(h:WS S)(id:Int)(ks:List Int)(x:Int):zai (cuS S id ks) x=zai S x:=by
 unfold cuS
 split
 ·rename_i he
  obtain⟨i,ha,hr⟩:=zwy he;exact zno h ha hr x
 ·rfl
theorem zzU(he:deE S id=0):∃i,atS S id=some i:=by
 unfold deE zcF at he
 cases c:atS S id with
 | none=>rw[c]at he;exact absurd he (by decide)
 | some i=>exact⟨i,rfl⟩
theorem zzV(he:deE S id≠0):deS S id=S:=by
 unfold deE zcF at he;unfold deS
 cases c:atS S id with
 | none=>rfl
 | some i=>rw[c]at he;exact absurd rfl he
theorem zlQ(h:WS S){id:Int}(he:deE S id=0)(x:Int):zai (deS S id) x=true↔zai S x=true/\x≠id:=by
 obtain⟨i,ha⟩:=zzU he;obtain⟨w1,w2⟩:=zfm h ha;rw[w1.live,h.live];constructor
 ·rintro⟨Q,hQ⟩;exact⟨⟨Q,((w2 x Q).1 hQ).1⟩,((w2 x Q).1 hQ).2⟩
 ·rintro⟨⟨Q,hQ⟩,c⟩;exact⟨Q,(w2 x Q).2 ⟨hQ,c⟩⟩
theorem zfw(h:WS S):Told (λ_=>True) (λx P=>inS S x P) (S.now - 1) S:=⟨h,om,λ_ _ c=>Or.inl c,λ_ P c=>Or.inl ⟨P,c⟩⟩
theorem zwY(h:WS S)(l:List Int):WS (toS S l):=(Told.to l (zfw h)).ws
theorem zyH(h:WS S)(id:Int):WS (deS S id):=((zfw h).de id).ws
theorem zzW(h:WS S)(P:PT):WS (spS S P):=((zfw h).spawn P).ws
theorem zzX(h:WS S)(id:Int)(Q:PT)(ks:List Int):WS (puS S id Q ks):=((zfw h).pu id Q ks).ws
theorem zzY(h:WS S)(id:Int)(ks:List Int):WS (cuS S id ks):=((zfw h).cu id ks).ws
theorem zzZ(h:WS S):WS (neS S):=((zfw h).ne).ws
theorem zz0{since:Int}(hn:since<S.now)(P:PT){x:Int}(h:CH since S x):CH since (spS S P) x:=by
 obtain⟨t,h1,h2⟩:=h;unfold spS
 split
 ·exact zeG h1 h2 hn
 ·exact⟨t,h1,h2⟩
theorem zvm{since:Int}(hn:since<S.now){P:PT}(he:spE S P=0):CH since (spS S P) (spV S P):=by
 refine⟨S.now,?_,hn⟩;unfold spS spV;rw[if_pos he,if_pos he];exact zeH _ _ _
theorem zvo{since:Int}(hn:since<S.now)(id:Int)(P:PT){x:Int}(h:CH since S x):CH since (zdA S id P) x:=by
 obtain⟨t,h1,h2⟩:=h;unfold zdA
 split
 ·exact zeG h1 h2 hn
 ·exact⟨t,h1,h2⟩
theorem zz1{since:Int}(hn:since<S.now)(id:Int)(Q:PT)(ks:List Int){x:Int}(h:CH since S x):CH since (puS S id Q ks) x:=by
 unfold puS
 split
 ·exact zvo hn _ _ h
 ·exact h
theorem zz2{since:Int}(hn:since<S.now)(id:Int)(ks:List Int){x:Int}(h:CH since S x):CH since (cuS S id ks) x:=by
 unfold cuS
 split
 ·exact zvo hn _ _ h
 ·exact h
theorem zz3{since:Int}(id:Int){x:Int}(h:CH since S x):CH since (deS S id) x:=by
 obtain⟨t,h1,h2⟩:=h;unfold deS
 split <;> exact⟨t,h1,h2⟩
theorem zyI{since:Int}(hn:since<S.now)(y:Int){x:Int}(h:CH since S x):CH since (to1 S y) x:=by
 obtain⟨t,h1,h2⟩:=h;unfold to1
 split
 ·exact zeG h1 h2 hn
 ·exact⟨t,h1,h2⟩
theorem zlR(S:St)(x:Int):(to1 S x).now=S.now:=by unfold to1;split <;> rfl
theorem zrl:∀ (l:List Int) {S:St} {since:Int},since<S.now->∀ {x:Int},CH since S x->CH since (toS S l) x
 | [],_,_,_,_,h=>h
 | y::l,S,since,hn,x,h=>zrl l (S:=to1 S y) (by rw[zlR];exact hn) (zyI hn y h)
theorem znp:∀ (l:List Int) {S:St} {since:Int},since<S.now->∀ {x:Int},x∈l->zai S x=true->CH since (toS S l) x
 | [],_,_,_,_,h,_=>by cases h
 | y::l,S,since,hn,x,h,hl=>by
  show CH since (toS (to1 S y) l) x;rcases mem_cons.1 h with e | m
  ·refine zrl l (by rw[zlR];exact hn) ?_;subst e;unfold to1;rw[if_pos hl];exact⟨S.now,zeH _ _ _,hn⟩
  ·exact znp l (by rw[zlR];exact hn) m (by rw[zri];exact hl)
theorem zyJ(S:St)(id:Int):(deS S id).now=S.now:=by unfold deS;split <;> rfl
structure WX (X:Sc):Prop where
 ws:WS X.S
 wf:WF X.L
 kid:∀q∈X.L,zai X.S q.1=true/\zai X.S q.2=true
theorem zyK(h:noP S p=false)(hp:0<=p):zai S p=true:=by
 unfold noP at h;rw[decide_eq_true hp]at h;simpa using h
theorem WX.zero(h:r<=256):WX (Sc0 r):=⟨zqw h,WF.nil,λq hq=>by cases hq⟩
theorem WX.sp(h:WX X)(P:PT)(p:Int):WX (zez X P p):=by
 unfold zez
 by_cases c:noP X.S p=true
 ·rw[if_pos c];exact h
 ·rw[if_neg c]
  by_cases he:spE X.S P=0
  ·refine⟨zzW h.ws P,?_,?_⟩
   ·show WF (if spE X.S P=0/\0<=p then _ else _)
    split
    ·exact h.wf.set9 _ _
    ·exact h.wf
   ·show ∀q∈(if spE X.S P=0/\0<=p then _ else _),_
    have hk:∀q∈X.L,zai (spS X.S P) q.1=true/\zai (spS X.S P) q.2=true:=λq hq=>⟨(zfv h.ws he _).2 (.inl (h.kid q hq).1),(zfv h.ws he _).2 (.inl (h.kid q hq).2)⟩
    split
    ·rename_i hh
     intro q hq;rcases znm hq with m | m
     ·exact hk q m
     ·subst m;exact⟨(zfv h.ws he _).2 (.inr rfl),(zfv h.ws he _).2 (.inl (zyK (by simpa using c) hh.2))⟩
    ·exact hk
  ·have e:spS X.S P=X.S:=by unfold spS;rw[if_neg he]
   rw[if_neg (λhh=>he hh.1),e];exact h
theorem WX.de(h:WX X)(id:Int):WX (zfO X id):=by
 unfold zfO
 by_cases he:deE X.S id=0
 ·rw[if_pos he];refine⟨zwY (zyH h.ws id) _,h.wf.drop id,λq hq=> ?_⟩;obtain⟨h1,h2,h3⟩:=zrj h.wf.1 hq;obtain⟨k1,k2⟩:=h.kid q h1;show zai (toS (deS X.S id) _) _=true/\zai (toS (deS X.S id) _) _=true;rw[zce,zce];exact⟨(zlQ h.ws he _).2 ⟨k1,h2⟩,(zlQ h.ws he _).2 ⟨k2,h3⟩⟩
 ·rw[if_neg he];exact h
theorem WX.pu(h:WX X)(id:Int)(Q:PT)(ks:List Int):WX (znk X id Q ks):=⟨zzX h.ws id Q ks,h.wf,λq hq=>by
 show zai (puS X.S id Q ks) _=true/\zai (puS X.S id Q ks) _=true
 rw[zlO h.ws,zlO h.ws];exact h.kid q hq⟩
theorem WX.cu(h:WX X)(id:Int)(ks:List Int):WX (zoD X id ks):=⟨zzY h.ws id ks,h.wf,λq hq=>by
 show zai (cuS X.S id ks) _=true/\zai (cuS X.S id ks) _=true
 rw[zlP h.ws,zlP h.ws];exact h.kid q hq⟩
theorem zwZ(h:zjs X c p=0):zai X.S c=true/\zai X.S p=true/\zbq X.L c p=0:=by
 unfold zjs at h
 by_cases q:(zai X.S c && zai X.S p)=true
 ·rw[if_pos q]at h;rw[Bool.and_eq_true]at q;exact⟨q.1,q.2,h⟩
 ·rw[if_neg q]at h;exact absurd h (by decide)
theorem WX.ad(h:WX X)(c p:Int):WX (zfX X c p):=by
 unfold zfX
 by_cases he:zjs X c p=0
 ·rw[if_pos he];obtain⟨l1,l2,_⟩:=zwZ he;refine⟨zwY h.ws _,h.wf.set9 _ _,λq hq=> ?_⟩;show zai (toS X.S [c]) _=true/\zai (toS X.S [c]) _=true;rw[zce,zce];rcases znm hq with m | m
  ·exact h.kid q m
  ·subst m;exact⟨l1,l2⟩
 ·rw[if_neg he];exact h
theorem WX.fr(h:WX X)(c:Int):WX (zha X c):=by
 unfold zha
 by_cases he:zai X.S c=true
 ·rw[if_pos he];refine⟨?_,h.wf.free c,λq hq=> ?_⟩
  ·show WS (if (zak X.L c).isSome then toS X.S [c] else X.S)
   split
   ·exact zwY h.ws _
   ·exact h.ws
  ·have hk:=h.kid q (zeY.1 hq).1;show zai (if (zak X.L c).isSome then toS X.S [c] else X.S) _=true/\zai (if (zak X.L c).isSome then toS X.S [c] else X.S) _=true
   split
   ·rw[zce,zce];exact hk
   ·exact hk
 ·rw[if_neg he];exact h
theorem WX.ne(h:WX X):WX (zfY X):=⟨zzZ h.ws,h.wf,h.kid⟩
def BSc(X:Sc)(m:Nat):Prop:=X.S.ch.length+X.L.length<=m/\X.S.go.length<=m/\(∀i,i<32->(X.S.T i).length<=m)/\0<X.S.now/\X.S.now<=m+1/\X.S.room<=256
theorem BSc.bd(h:BSc X m):Bd X.S m:=⟨by have:=h.1;omega,h.2.1,h.2.2.1,h.2.2.2.1,h.2.2.2.2.1,h.2.2.2.2.2⟩
theorem BSc.len(h:BSc X m):X.L.length<=m:=by have:=h.1;omega
theorem BSc.mono{m':Nat}(h:BSc X m)(hm:m<=m'):BSc X m':=⟨Nat.le_trans h.1 hm,Nat.le_trans h.2.1 hm,λi hi=>Nat.le_trans (h.2.2.1 i hi) hm,h.2.2.2.1,by have:=h.2.2.2.2.1;omega,h.2.2.2.2.2⟩
theorem BSc.zero(h:r<=256):BSc (Sc0 r) 0:=⟨Nat.le_refl _,Nat.le_refl _,λ_ _=>Nat.le_refl _,by show (0:Int)<1;omega,by show (1:Int)<=_;omega,h⟩
theorem BSc.of(h:Bd X.S m)(hl:X.S.ch.length+X.L.length<=k)(hm:m<=k):BSc X k:=⟨hl,Nat.le_trans h.2.1 hm,λi hi=>Nat.le_trans (h.2.2.1 i hi) hm,h.2.2.2.1,by have:=h.2.2.2.2.1;omega,h.2.2.2.2.2⟩
theorem zyL:∀ (l:List Int) (S:St),(toS S l).ch.length<=S.ch.length+l.length/\(toS S l).go=S.go/\(toS S l).T=S.T/\(toS S l).now=S.now/\(toS S l).room=S.room
 | [],S=>⟨Nat.le_refl _,rfl,rfl,rfl,rfl⟩
 | x::l,S=>by
  obtain⟨a,b,c,d,e⟩:=zyL l (to1 S x);have h1:(to1 S x).ch.length<=S.ch.length+1/\(to1 S x).go=S.go/\(to1 S x).T=S.T/\(to1 S x).now=S.now/\(to1 S x).room=S.room:=by
   unfold to1
   split
   ·exact⟨zeJ _ _ _,rfl,rfl,rfl,rfl⟩
   ·exact⟨om,rfl,rfl,rfl,rfl⟩
  refine⟨?_,b.trans h1.2.1,c.trans h1.2.2.1,d.trans h1.2.2.2.1,e.trans h1.2.2.2.2⟩;show (toS (to1 S x) l).ch.length<=_;rw[length_cons];have:=h1.1;omega
theorem BSc.to(h:Bd X.S m)(l:List Int)(L:FT)(hl:X.S.ch.length+l.length+L.length<=k)(hm:m<=k):BSc ⟨toS X.S l,L⟩ k:=by
 obtain⟨a,b,c,d,e⟩:=zyL l X.S;exact⟨by show (toS X.S l).ch.length+L.length<=k;omega,by show (toS X.S l).go.length<=k;rw[b];exact Nat.le_trans h.2.1 hm,λi hi=>by show ((toS X.S l).T i).length<=k;rw[c];exact Nat.le_trans (h.2.2.1 i hi) hm,by show 0<(toS X.S l).now;rw[d];exact h.2.2.2.1,by show (toS X.S l).now<=_;rw[d];have:=h.2.2.2.2.1;omega,by show (toS X.S l).room<=256;rw[e];exact h.2.2.2.2.2⟩
theorem zz4(S:St)(P:PT):(spS S P).ch.length<=S.ch.length+1:=by
 unfold spS
 split
 ·exact zeJ _ _ _
 ·omega
theorem zvp(S:St)(id:Int)(P:PT):(zdA S id P).ch.length<=S.ch.length+1:=by
 unfold zdA
 split
 ·exact zeJ _ _ _
 ·omega
theorem zz5(S:St)(id:Int)(Q:PT)(ks:List Int):(puS S id Q ks).ch.length<=S.ch.length+1:=by
 unfold puS
 split
 ·exact zvp _ _ _
 ·omega
theorem zz6(S:St)(id:Int)(ks:List Int):(cuS S id ks).ch.length<=S.ch.length+1:=by
 unfold cuS
 split
 ·exact zvp _ _ _
 ·omega
theorem zz7(S:St)(id:Int):(deS S id).ch=S.ch:=by unfold deS;split <;> rfl
theorem zz8(h:Bd S m)(id:Int)(Q:PT)(ks:List Int):Bd (puS S id Q ks) (m+1):=by
 unfold puS
 split
 ·exact zu9 h _ _
 ·exact h.mono om
theorem zz9(h:Bd S m)(id:Int)(ks:List Int):Bd (cuS S id ks) (m+1):=by
 unfold cuS
 split
 ·exact zu9 h _ _
 ·exact h.mono om
theorem BSc.sp(h:BSc X m)(P:PT)(p:Int):BSc (zez X P p) (m+2):=by
 unfold zez
 split
 ·exact h.mono om
 ·refine BSc.of (X:=⟨_,_⟩) (zzQ h.bd P) ?_ om;have h1:=zz4 X.S P;have h2:=h.1;show (spS X.S P).ch.length+(if spE X.S P=0/\0<=p then _ else _:FT).length<=_
  split
  ·have:=znl X.L (spV X.S P) p;omega
  ·omega
theorem BSc.de(h:BSc X m)(hw:WX X)(id:Int):BSc (zfO X id) (m+2):=by
 unfold zfO
 split
 ·refine BSc.to (X:=⟨deS X.S id,X.L⟩) (zys h.bd id) _ _ ?_ om;have h1:=zrk hw.wf.1 id;have h2:=h.1;show (deS X.S id).ch.length+_+_<=_;rw[zz7];omega
 ·exact h.mono om
theorem BSc.pu(h:BSc X m)(id:Int)(Q:PT)(ks:List Int):BSc (znk X id Q ks) (m+2):=by
 refine BSc.of (X:=⟨_,_⟩) (zz8 h.bd id Q ks) ?_ om;have h1:=zz5 X.S id Q ks;have h2:=h.1;show (puS X.S id Q ks).ch.length+X.L.length<=_;omega
theorem BSc.cu(h:BSc X m)(id:Int)(ks:List Int):BSc (zoD X id ks) (m+2):=by
 refine BSc.of (X:=⟨_,_⟩) (zz9 h.bd id ks) ?_ om;have h1:=zz6 X.S id ks;have h2:=h.1;show (cuS X.S id ks).ch.length+X.L.length<=_;omega
theorem BSc.ad(h:BSc X m)(c p:Int):BSc (zfX X c p) (m+2):=by
 unfold zfX
 split
 ·refine BSc.to h.bd _ _ ?_ om;have h1:=znl X.L c p;have h2:=h.1;show X.S.ch.length+1+_<=_;omega
 ·exact h.mono om
theorem BSc.fr(h:BSc X m)(c:Int):BSc (zha X c) (m+2):=by
 unfold zha;have h1:=zeP X.L c;have h2:=h.1
 split
 ·by_cases q:(zak X.L c).isSome=true
  ·rw[if_pos q];refine BSc.to h.bd _ _ ?_ om;show X.S.ch.length+1+_<=_;omega
  ·rw[if_neg q];exact BSc.of (X:=⟨_,_⟩) h.bd (by show X.S.ch.length+(zaG X.L c).length<=_;omega) om
 ·exact h.mono om
theorem BSc.ne(h:BSc X m):BSc (zfY X) (m+2):=BSc.of (X:=⟨_,_⟩) (zzP h.bd) (by have:=h.1;show X.S.ch.length+X.L.length<=_;omega) om
structure ToldX (I:Int->PT->Prop) (Io:Int->Option Int) (since:Int) (X:Sc):Prop where
 wx:WX X
 told:Told (λ_=>True) I since X.S
 par:∀x,zai X.S x=true->zak X.L x=Io x∨CH since X.S x
section
variable {I:Int->PT->Prop} {Io:Int->Option Int} {since:Int} {X:Sc}
theorem ToldX.sp(h:ToldX I Io since X)(P:PT)(p:Int):ToldX I Io since (zez X P p):=by
 refine⟨h.wx.sp P p,?_,?_⟩
 ·unfold zez
  split
  ·exact h.told
  ·exact h.told.spawn P
 ·unfold zez
  by_cases c:noP X.S p=true
  ·rw[if_pos c];exact h.par
  ·rw[if_neg c];intro x hx;show zak (if spE X.S P=0/\0<=p then _ else _) x=_∨CH since (spS X.S P) x
   have hn:=h.told.now
   by_cases he:spE X.S P=0
   ·rcases (zfv h.wx.ws he x).1 hx with hl | e
    ·by_cases e:x=spV X.S P
     ·exact .inr (by rw[e];exact zvm hn he)
     ·rcases h.par x hl with q | q
      ·refine .inl ?_
       split
       ·rw[znn e];exact q
       ·exact q
      ·exact .inr (zz0 hn P q)
    ·exact .inr (by rw[e];exact zvm hn he)
   ·have e:spS X.S P=X.S:=by unfold spS;rw[if_neg he]
    rw[if_neg (λhh=>he hh.1),e];exact h.par x (by rw[<-e];exact hx)
theorem ToldX.de(h:ToldX I Io since X)(id:Int):ToldX I Io since (zfO X id):=by
 refine⟨h.wx.de id,?_,?_⟩
 ·unfold zfO
  split
  ·exact Told.to _ (h.told.de id)
  ·exact h.told
 ·unfold zfO
  by_cases he:deE X.S id=0
  ·rw[if_pos he];intro x hx;have hn:=h.told.now;show zak (zcK X.L id) x=_∨CH since (toS (deS X.S id) (chF X.L id)) x;have YB:zai (deS X.S id) x=true:=by rw[<-zce (chF X.L id)];exact hx
   obtain⟨k1,k2⟩:=(zlQ h.wx.ws he x).1 YB;have SF:since<(deS X.S id).now:=by rw[zyJ];exact hn
   by_cases m:x∈chF X.L id
   ·exact .inr (znp _ SF m YB)
   ·rcases h.par x k1 with q | q
    ·exact .inl (by rw[ztN,if_neg (λz=>z.elim m k2)];exact q)
    ·exact .inr (zrl _ SF (zz3 id q))
  ·rw[if_neg he];exact h.par
theorem ToldX.pu(h:ToldX I Io since X)(id:Int)(Q:PT)(ks:List Int):ToldX I Io since (znk X id Q ks):=
 ⟨h.wx.pu id Q ks,h.told.pu id Q ks,λx hx=>(h.par x (by rw[<-zlO h.wx.ws id Q ks];exact hx)).imp_right (zz1 h.told.now id Q ks)⟩
theorem ToldX.cu(h:ToldX I Io since X)(id:Int)(ks:List Int):ToldX I Io since (zoD X id ks):=
 ⟨h.wx.cu id ks,h.told.cu id ks,λx hx=>(h.par x (by rw[<-zlP h.wx.ws id ks];exact hx)).imp_right (zz2 h.told.now id ks)⟩
theorem ToldX.ad(h:ToldX I Io since X)(c p:Int):ToldX I Io since (zfX X c p):=by
 refine⟨h.wx.ad c p,?_,?_⟩
 ·unfold zfX
  split
  ·exact Told.to _ h.told
  ·exact h.told
 ·unfold zfX
  by_cases he:zjs X c p=0
  ·rw[if_pos he];intro x hx;have YB:zai X.S x=true:=by rw[<-zce [c]];exact hx
   have hn:=h.told.now;show zak (zbD X.L c p) x=_∨CH since (toS X.S [c]) x
   by_cases e:x=c
   ·exact .inr (znp _ hn (by rw[e];exact mem_cons_self) YB)
   ·rcases h.par x YB with q | q
    ·exact .inl (by rw[znn e];exact q)
    ·exact .inr (zrl _ hn q)
  ·rw[if_neg he];exact h.par
theorem ToldX.fr(h:ToldX I Io since X)(c:Int):ToldX I Io since (zha X c):=by
 refine⟨h.wx.fr c,?_,?_⟩
 ·unfold zha
  split
  ·show Told _ I since (if (zak X.L c).isSome then toS X.S [c] else X.S)
   split
   ·exact Told.to _ h.told
   ·exact h.told
  ·exact h.told
 ·unfold zha
  by_cases he:zai X.S c=true
  ·rw[if_pos he];intro x;show zai (if (zak X.L c).isSome then toS X.S [c] else X.S) x=true->zak (zaG X.L c) x=_∨CH since (if (zak X.L c).isSome then toS X.S [c] else X.S) x
   have hn:=h.told.now
   by_cases q:(zak X.L c).isSome=true
   ·rw[if_pos q,zce];intro hx
    by_cases e:x=c
    ·exact .inr (znp _ hn (by rw[e];exact mem_cons_self) hx)
    ·rcases h.par x hx with z | z
     ·exact .inl (by rw[za7,if_neg e];exact z)
     ·exact .inr (zrl _ hn z)
   ·rw[if_neg q];intro hx;have q':zak X.L c=none:=by simpa using q
    rcases h.par x hx with z | z
    ·refine .inl ?_;rw[za7]
     by_cases e:x=c
     ·rw[if_pos e,<-z,e,q']
     ·rw[if_neg e];exact z
    ·exact .inr z
  ·rw[if_neg he];exact h.par
theorem ToldX.ne(h:ToldX I Io since X):ToldX I Io since (zfY X):=⟨h.wx.ne,h.told.ne,h.par⟩
end
theorem ToldX.start(h:WX X):ToldX (λx P=>inS X.S x P) (zak X.L) X.S.now (zfY X):=⟨h.ne,Told.start h.ws,λ_ _=>Or.inl rfl⟩
theorem ToldX.first(h:r<=256):ToldX (λ_ _=>False) (λ_=>none) 0 (Sc0 r):=⟨WX.zero h,Told.first h,λ_ _=>Or.inl rfl⟩
theorem ToldX.same{since:Int}(h0:WX I0)(h:ToldX (λx P=>inS I0.S x P) (zak I0.L) since X){x:Int}(hl:zai X.S x=true)(hc:x∉chL X.S since):x∈alS I0.S/\zaS I0 x=zaS X x/\zby I0.S x=zby X.S x:=by
 have hn:¬CH since X.S x:=λq=>hc (zeI.2 ⟨hl,q⟩);obtain⟨P,hP⟩:=(h.wx.ws.live x).1 hl;have h1:inS I0.S x P:=(h.told.chg x P hP).resolve_right hn;have h2:zak X.L x=zak I0.L x:=(h.par x hl).resolve_right hn;have g1:=h0.ws.get h1;have g2:=h.wx.ws.get hP;have b1:zcF I0.S x=true:=zd4.2 ⟨P,h1⟩;have b2:zcF X.S x=true:=zd4.2 ⟨P,hP⟩;refine⟨(zcs h0.ws).2 ((h0.ws.live x).2 ⟨P,h1⟩),?_,by rw[g1,g2]⟩;unfold zaS;rw[if_pos b1,if_pos b2,g1,g2,h2]
theorem ToldX.gone{since:Int}(h0:WX I0)(h:ToldX (λx P=>inS I0.S x P) (zak I0.L) since X){x:Int}(hx:x∈alS I0.S):x∈alS X.S∨x∈goL X.S since:=by
 obtain⟨P,hP⟩:=(h0.ws.live x).1 ((zcs h0.ws).1 hx);rcases h.told.gon x P hP with ⟨Q,hQ⟩ | q
 ·exact .inl ((zcs h.wx.ws).2 ((h.wx.ws.live x).2 ⟨Q,hQ⟩))
 ·exact .inr (zqy.2 q)
theorem zhb:∀ (xs:List Int) {D:FD} {m:Nd},m∈(zbr D xs).L↔m∈D.L/\m.id∉xs
 | [],D,m=>by simp[zbr]
 | x::xs,D,m=>by
  show m∈(zbr (za2 D x) xs).L↔_;rw[zhb xs,mem_cons,not_or];have:m∈(za2 D x).L↔m∈D.L/\m.id≠x:=by
   unfold za2
   by_cases c:zcw D x=true
   ·rw[if_pos c];show m∈D.L.filter (λm=>m.id != x)↔_;rw[mem_filter];simp
   ·rw[if_neg c];refine⟨λh=>⟨h,λe=>c ?_⟩,And.left⟩;unfold zcw;exact zaM.2 ⟨m,h,e⟩
  rw[this,and_assoc]
theorem zh2:∀ (xs:List Int) (D:FD),(zbr D xs).begun=D.begun/\(zbr D xs).sts=D.sts
 | [],D=>⟨rfl,rfl⟩
 | x::xs,D=>by
  obtain⟨h1,h2⟩:=zh2 xs (za2 D x);have:(za2 D x).begun=D.begun/\(za2 D x).sts=D.sts:=by unfold za2;split <;> exact⟨rfl,rfl⟩
  exact⟨h1.trans this.1,h2.trans this.2⟩
theorem ztO(xs:List Int){D:FD}(h:DOk D)(y:Int):elF Nd.id (zbr D xs).L y=if y∈xs then none else elF Nd.id D.L y:=by
 by_cases c:y∈xs
 ·rw[if_pos c,zcY];intro m hm e;exact ((zhb xs).1 hm).2 (e ▸ c)
 ·rw[if_neg c];exact zeU h.nod (λm hm=>(zhb xs).trans ⟨And.left,λq=>⟨q,hm ▸ c⟩⟩)
def zed(X:Sc)(L:List Nd):Prop:=∀x,elF Nd.id L x=if zai X.S x=true then some (zaS X x) else none
theorem zdW(h:WX X){z:Int}(hz:zai X.S z=true):(zaS X z).id=z:=by
 unfold zaS;rw[if_pos (by rw[<-zdV h.ws];exact hz)]
theorem zoE(h:WX X){L:List Nd}(hN:zed X L)(x:Int):zaq L x=if zai X.S x=true then (zak X.L x).getD (-1) else -1:=by
 unfold zaq;rw[hN x]
 by_cases c:zai X.S x=true
 ·rw[if_pos c,if_pos c];have e:(zaS X x).par=(zak X.L x).getD (-1):=by
   unfold zaS;rw[if_pos (by rw[<-zdV h.ws];exact c)]
  show (if (zaS X x).par<0∨(elF Nd.id L (zaS X x).par).isNone=true then -1 else (zaS X x).par)=_
  rw[e]
  cases q:zak X.L x with
  | none=>rfl
  | some y=>
   have hy:=(h.kid _ (zbo q)).2;show (if y<0∨(elF Nd.id L y).isNone=true then -1 else y)=y
   rw[hN y,if_pos hy];have:0<=y:=(zaU.1 hy).1;rw[if_neg (by simp;omega)]
 ·rw[if_neg c,if_neg c]
theorem zkg(h:WX X){L:List Nd}(hn:(L.map Nd.id).Nodup)(hN:zed X L)(x:Int):zak (zaj L) x=zak X.L x:=by
 rw[zav hn,zoE h hN]
 by_cases c:zai X.S x=true
 ·rw[if_pos c]
  cases q:zak X.L x with
  | none=>rfl
  | some y=>
   have:0<=y:=(zaU.1 (h.kid _ (zbo q)).2).1;show (if 0<=y then some y else none)=some y
   rw[if_pos this]
 ·rw[if_neg c,if_neg om]
  cases q:zak X.L x with
  | none=>rfl
  | some y=>exact absurd (h.kid _ (zbo q)).1 c
section
variable {α:Type}
theorem zvq(L:List α)(x:α)(R:List α):(L++x::R)[L.length]? =some x:=by simp
theorem zlS(L:List α)(x y:α)(R:List α):(L++x::R).set L.length y=L++y::R:=by
 rw[set_append_right _ _ (Nat.le_refl _),Nat.sub_self,set_cons_zero]
theorem zw0(L:List α)(x:α)(M:List α)(y z:α)(R:List α):(L++x::(M++y::R)).set (L.length+1+M.length) z=L++x::(M++z::R):=by
 have h:L++x::(M++y::R)=(L++x::M)++y::R:=by simp
 rw[h,show L.length+1+M.length=(L++x::M).length by simp;omega,zlS];simp
theorem ztP(L:List α)(x:α)(M:List α)(y:α)(R:List α):((L++x::(M++y::R)).set (L.length+1+M.length) x).set L.length y=L++y::(M++x::R):=by
 rw[zw0,zlS]
end
section
variable {α:Type} (key:α->Int)
def Fil(L M:List α):Prop:=∀k,M.filter (λx=>key x==k)=L.filter (λx=>key x==k)
def Asc(L:List α):Prop:=L.Pairwise (λa b=>key a<=key b)
variable {key}
theorem Fil.refl(L:List α):Fil key L L:=λ_=>rfl
theorem Fil.trans{A B C:List α}(h:Fil key A B)(h':Fil key B C):Fil key A C:=λk=>(h' k).trans (h k)
theorem Fil.app{A A' B B':List α}(h:Fil key A A')(h':Fil key B B'):Fil key (A++B) (A'++B'):=λk=>by
 rw[filter_append,filter_append,h k,h' k]
theorem zrm{A B:List α}(h:∀a∈A,∀b∈B,key a≠key b):Fil key (A++B) (B++A):=λk=>by
 rw[filter_append,filter_append]
 by_cases hA:A.filter (λx=>key x==k)=[]
 ·rw[hA];simp
 ·obtain⟨a,ha⟩:=exists_mem_of_ne_nil _ hA;have jH:=mem_filter.1 ha;have hB:B.filter (λx=>key x==k)=[]:=by
   rw[filter_eq_nil_iff];intro b hb;have:=h a jH.1 b hb;have e:key a=k:=by simpa using jH.2
   rw[e]at this;simpa using λc=>this c.symm
  rw[hB];simp
theorem Fil.mid{P Q:List α}{S S':List α}(h:Fil key S S'):Fil key (P++S++Q) (P++S'++Q):=((Fil.refl P).app h).app (Fil.refl Q)
theorem zkh{L:List α}(h:Asc key L){i j:Nat}(X5:i<=j){a b:α}(ha:L[i]? =some a)(hb:L[j]? =some b):key a<=key b:=by
 rcases Nat.lt_or_eq_of_le X5 with h1 | rfl
 ·obtain⟨hi,ei⟩:=List.getElem?_eq_some_iff.1 ha;obtain⟨hj,ej⟩:=List.getElem?_eq_some_iff.1 hb;have:=List.pairwise_iff_getElem.1 h i j hi hj h1;rw[ei,ej]at this;exact this
 ·rw[ha]at hb;injection hb with e;rw[e];exact Int.le_refl _
theorem zvs{L:List α}(h:∀ (i j:Nat) (a b:α),i<j->L[i]? =some a->L[j]? =some b->key a<=key b):Asc key L:=
 List.pairwise_iff_getElem.2 λi j hi hj X5=>h i j _ _ X5 (getElem?_eq_getElem hi) (getElem?_eq_getElem hj)
def AscIn(key:α->Int)(X:List α)(lo hi:Nat):Prop:=∀ (i j:Nat) (a b:α),lo<=i->i<j->j<hi->X[i]? =some a->X[j]? =some b->key a<=key b
theorem AscIn.mid{P S Q:List α}(h:Asc key S):AscIn key (P++S++Q) P.length (P.length+S.length):=λi j a b h1 h2 h3 ha hb=>by
 rw[append_assoc,getElem?_append_right h1,getElem?_append_left om]at ha;rw[append_assoc,getElem?_append_right om,getElem?_append_left om]at hb;exact zkh h om ha hb
theorem AscIn.out{X:List α}(h:AscIn key X lo hi):Asc key ((X.drop lo).take (hi - lo)):=zvs λi j a b X5 ha hb=>by
 have hj:j<hi - lo:=by
  obtain⟨hj,_⟩:=List.getElem?_eq_some_iff.1 hb;rw[length_take]at hj;omega
 rw[getElem?_take,if_pos om,getElem?_drop]at ha;rw[getElem?_take,if_pos hj,getElem?_drop]at hb;exact h (lo+i) (lo+j) a b om om om ha hb
theorem AscIn.one(X:List α){lo hi:Nat}(h:hi<=lo+1):AscIn key X lo hi:=λi j _ _ h1 h2 h3=>om
structure SStep (key:α->Int) (X Y:List α) (lo hi:Nat):Prop where
 len:Y.length=X.length
 fil:Fil key X Y
 out:∀i,i<lo∨hi<=i->Y[i]? =X[i]?
theorem SStep.refl(X:List α)(lo hi:Nat):SStep key X X lo hi:=⟨rfl,Fil.refl X,λ_ _=>rfl⟩
theorem SStep.trans{X Y Z:List α}(h:SStep key X Y lo hi)(h':SStep key Y Z lo hi):SStep key X Z lo hi:=
 ⟨h'.len.trans h.len,h.fil.trans h'.fil,λi hi=>(h'.out i hi).trans (h.out i hi)⟩
theorem SStep.wide{X Y:List α}{eF hi':Nat}(h:SStep key X Y lo hi)(h1:eF<=lo)(h2:hi<=hi'):SStep key X Y eF hi':=
 ⟨h.len,h.fil,λi hi=>h.out i om⟩
theorem SStep.mid{P S S' Q:List α}(hl:S'.length=S.length)(h:Fil key S S'):SStep key (P++S++Q) (P++S'++Q) P.length (P.length+S.length):=
 ⟨by simp[hl],h.mid,λi hi=>by
  rcases hi with hi | hi
  ·rw[append_assoc,append_assoc,getElem?_append_left hi,getElem?_append_left hi]
  ·rw[getElem?_append_right (by simp;omega),getElem?_append_right (by simp;omega)]
   simp[hl]⟩
theorem zAa{X:List α}(h1:lo<=hi)(h2:hi<=X.length):X=X.take lo++(X.drop lo).take (hi - lo)++X.drop hi/\(X.take lo).length=lo/\((X.drop lo).take (hi - lo)).length=hi - lo:=by
 refine⟨?_,by rw[length_take];omega,by rw[length_take,length_drop];omega⟩;have e:X.drop hi=(X.drop lo).drop (hi - lo):=by rw[drop_drop];congr 1;omega
 rw[e,append_assoc,take_append_drop,take_append_drop]
end
structure Rc where
 id:Int
 ms:Int
 pp:Int
 mt:Int
 cl:Bool
 ly:Int
 x0:Int
 x1:Int
 x2:Int
 x3:Int
 x4:Int
 x5:Int
def cRc(r:Rc):List Value:=[.int .i64 r.id,.int .i64 r.ms,.int .i64 r.pp,.int .i64 r.mt,.bool r.cl,.int .i64 r.ly,.int .i64 r.x0,.int .i64 r.x1,.int .i64 r.x2,.int .i64 r.x3,.int .i64 r.x4,.int .i64 r.x5]
def zRc:Rc:=⟨0,0,0,0,false,0,0,0,0,0,0,0⟩
theorem zaC(r:Rc):(cRc r).length=12:=rfl
theorem zcZ(r:Rc):∀u∈cRc r,u.oneCell'=true:=λu hu=>by
 unfold cRc at hu;simp only[mem_cons,not_mem_nil,or_false]at hu;rcases hu with h | h | h | h | h | h | h | h | h | h | h | h <;> (rw[h];rfl)
def zfZ(a b:Int):Int:=if a<b then -1 else if b<a then 1 else 0
theorem zlT{a b:Int}:zfZ a b<0↔a<b:=by
 unfold zfZ
 by_cases h:a<b
 ·simp[h]
 ·by_cases h':b<a <;> simp[h,h']
section
variable {α:Type} {k:Nat} {c:α->List Value} {t:TypeId} {w w':World} {g:Nat} {X:List α}
def MR(k:Nat)(c:α->List Value)(t:TypeId)(w:World)(g:Nat)(X:List α):Prop:=∃cur:List Value,Blk w g t cur.toArray/\X.length*k<=cur.length/\cur.take (X.length*k)=X.flatMap c
theorem MR.lt(h:MR k c t w g X):g<w.heap.size:=h.elim λ_ q=>q.1.lt
theorem MR.same(h:MR k c t w g X)(e:w'.heap[g]? =w.heap[g]?):MR k c t w' g X:=h.imp λ_ q=>⟨q.1.same e,q.2⟩
theorem MR.keep(h:MR k c t w g X)(hb:Bw w w'):MR k c t w' g X:=h.same (hb.block g h.lt)
theorem MR.range(hc:∀x,(c x).length=k)(h:MR k c t w g X){i:Nat}{x:α}(hi:X[i]? =some x):w.rangeAt g (i*k) (c x):=by
 obtain⟨cur,hb,hl,ht⟩:=h;have hlt:i<X.length:=(List.getElem?_eq_some_iff.1 hi).1;have h2:(i+1)*k<=X.length*k:=mul_le_mul_right _ hlt;rw[Nat.add_mul]at h2;have h1:=zaF hb (i*k) k;rw[<-ziw hc X i x hi,<-ht,drop_take,take_take,Nat.min_eq_left om];exact h1
theorem MR.there(h:MR k c t w g X){i:Nat}(hi:i<X.length):w.there g (i*k) k:=by
 obtain⟨cur,hb,hl,ht⟩:=h;have h2:(i+1)*k<=X.length*k:=mul_le_mul_right _ hi;rw[Nat.add_mul]at h2;exact zae hb om
theorem zki(hc:∀x,(c x).length=k):∀ (X:List α) (i:Nat) (y:α),i<X.length->(X.set i y).flatMap c=zaL (X.flatMap c) (i*k) (c y)
 | [],i,y,h=>by simp at h
 | a::X,0,y,h=>by
  unfold zaL;rw[set_cons_zero,flatMap_cons,flatMap_cons,Nat.zero_mul,take_zero,Nat.zero_add,hc y,nil_append,<-hc a,drop_left]
 | a::X,i+1,y,h=>by
  have ih:=zki hc X i y (by simpa using h);unfold zaL at ih ⊢;have e:(i+1)*k=k+i*k:=by rw[Nat.add_mul];omega
  rw[set_cons_succ,flatMap_cons,flatMap_cons,ih,e,take_append,drop_append,hc a,take_of_length_le (l:=c a) (by rw[hc a];omega),drop_eq_nil_of_le (show (c a).length<=k+i*k+(c y).length by rw[hc a];omega),show k+i*k - k=i*k by omega,show k+i*k+(c y).length - k=i*k+(c y).length by omega];simp
theorem zkj{A vs:List Value}{o n:Nat}(h:o+vs.length<=n)(hn:n<=A.length):(zaL A o vs).take n=zaL (A.take n) o vs:=by
 unfold zaL;rw[take_append,take_append,take_take,drop_take,length_append,length_take,Nat.min_eq_left (show o<=A.length by omega),take_take,Nat.min_eq_right (show o<=n by omega),Nat.min_eq_left (show o<=n by omega),take_of_length_le (show vs.length<=n - o by omega)]
theorem MR.set_(hc:∀x,(c x).length=k)(h:MR k c t w g X){i:Nat}(hi:i<X.length)(y:α):MR k c t (w.setCells g (i*k) (c y)) g (X.set i y):=by
 obtain⟨cur,hb,hl,ht⟩:=h;have h2:(i+1)*k<=X.length*k:=mul_le_mul_right _ hi;rw[Nat.add_mul]at h2;have qu:=zaf (c y) (o:=i*k) hb (by rw[hc];omega);refine⟨_,qu,?_,?_⟩
 ·rw[length_set,zb6 (by rw[hc];omega)];exact hl
 ·rw[length_set,zkj (by rw[hc];omega) hl,ht,zki hc X i y hi]
theorem zbQ:∀ (vs:List Value) (w:World) (g o:Nat),w.grownBy (w.setCells g o vs) (some g)
 | [],_,_,_=>⟨rfl,rfl,rfl,Nat.le_refl _,λ_ _ _=>rfl⟩
 | v::vs,w,g,o=>zap (zaR w g o v) (zbQ vs (w.setCell ⟨g,o,none⟩ v) g (o+1))
end
def DR(w:World)(t:TypeId)(g:Nat)(w':World)(X:List Rc):Prop:=MR 12 cRc t w' g X/\w.grownBy w' (some g)
theorem DR.below{X:List Rc}(h:DR w t g w' X)(hb:Bw w' dN):DR w t g dN X:=⟨h.1.keep hb,zap h.2 (zaQ hb _)⟩
theorem DR.next{X Y:List Rc}(h:DR w t g w' X)(h':DR w' t g dN Y):DR w t g dN Y:=⟨h'.1,zap h.2 h'.2⟩
theorem DR.start{X:List Rc}(h:MR 12 cRc t w g X):DR w t g w X:=⟨h,zaQ (Below.refl _ _) _⟩
theorem DR.swap{X:List Rc}(h:DR w t g w' X){p q:Nat}(hp:p<X.length)(hq:q<X.length)(x y:Rc):DR w t g ((w'.drew.setCells g (p*12) (cRc y)).setCells g (q*12) (cRc x)) ((X.set p y).set q x):=by
 have h0:MR 12 cRc t w'.drew g X:=h.1.keep (zaH (Below.refl _ _));have h1:=h0.set_ zaC hp y;have h2:=h1.set_ zaC (i:=q) (by simpa using hq) x;exact⟨h2,zap h.2 (zap (zaQ (zaH (Below.refl _ _)) _) (zap (zbQ _ _ _ _) (zbQ _ _ _ _)))⟩
theorem zkk:zbs 222:=λ_ _=>oM
theorem zlU:zbs 219:=λ_ _=>oM
theorem zw1(a:Int)(w:World):Calls prog 261 #[.int .i64 a] w λe w'=>e= .returned (.bool false)/\w=w':=by
 go_enter func261,ntmps261;go_wp2;go_ret;exact⟨by simp,rfl⟩
theorem zrn(a b:Int)(w:World):Calls prog 224 #[.int .i64 a,.int .i64 b] w λe w'=>e= .returned (.int .i64 (zfZ a b))/\w=w':=by
 have HE:Hid (∀x:Int,zfZ x x=0):=kA (λx=>by unfold zfZ;simp);have HL:Hid (∀x y:Int,x<y->zfZ x y= -1):=kA (λx y h=>by unfold zfZ;simp[h]);have HG:Hid (∀x y:Int,y<x->zfZ x y=1):=kA (λx y h=>by unfold zfZ;rw[if_neg om,if_pos h]);have zX:=kA (zw1)
 by_cases h:a<b
 ·go_enter func224,ntmps224;go_wp2_with fail;refine (zX _ _).mono ?_;rintro e w1 ⟨rfl,rfl⟩;go_wp2_with fail;refine (zX _ _).mono ?_;rintro e w1 ⟨rfl,rfl⟩;go_wp2;go_ret;exact⟨by rw[HL.out _ _ h];rfl,rfl⟩
 ·by_cases h2:b<a
  ·have h3:a>b:=h2;go_enter func224,ntmps224;go_wp2_with fail;refine (zX _ _).mono ?_;rintro e w1 ⟨rfl,rfl⟩;go_wp2_with fail;refine (zX _ _).mono ?_;rintro e w1 ⟨rfl,rfl⟩;go_wp2;go_ret;exact⟨by rw[HG.out _ _ h2];rfl,rfl⟩
  ·obtain rfl:a=b:=om;go_enter func224,ntmps224;go_wp2_with fail;refine (zX _ _).mono ?_;rintro e w1 ⟨rfl,rfl⟩;go_wp2_with fail;refine (zX _ _).mono ?_;rintro e w1 ⟨rfl,rfl⟩;go_wp2;go_ret;exact⟨by rw[HE.out];rfl,rfl⟩
theorem zvt(a b:Rc)(w:World):Calls prog 222 #[.agg (cRc a).toArray,.agg (cRc b).toArray] w λe w'=>e= .returned (.int .i64 (zfZ a.id b.id))/\Bw w w':=by
 have HC:=kA (zrn a.id b.id)
 have K0:Hid ((((w.alloc (.cells (cRc a).toArray 92)).alloc (.cells (cRc b).toArray 92)).cell? ⟨w.heap.size,0,none⟩=some (.int .i64 a.id))/\(((w.alloc (.cells (cRc a).toArray 92)).alloc (.cells (cRc b).toArray 92)).cell? ⟨w.heap.size+1,0,none⟩=some (.int .i64 b.id))):=kA ⟨((Blk.new w 92 (cRc a).toArray).alloc (.cells (cRc b).toArray 92)).cell 0,by
   have q:=(Blk.new (w.alloc (.cells (cRc a).toArray 92)) 92 (cRc b).toArray).cell 0;have e:(w.alloc (.cells (cRc a).toArray 92)).heap.size=w.heap.size+1:=by simp
   rw[e]at q
   exact q⟩
 have HB:Hid (Bw w ((w.alloc (.cells (cRc a).toArray 92)).alloc (.cells (cRc b).toArray 92))):=kA (zag (zaa _ _) _);obtain⟨A,hA⟩:∃A,A=(cRc a).toArray:=⟨_,rfl⟩;obtain⟨B,hB⟩:∃B,B=(cRc b).toArray:=⟨_,rfl⟩;rw[<-hA,<-hB]at K0 HB ⊢;clear hA hB;go_enter func222,ntmps222;go_upto_region 1 with fail;refine fin (λW=>W.cell? ⟨w.heap.size,0,none⟩=some (.int .i64 a.id)/\W.cell? ⟨w.heap.size+1,0,none⟩=some (.int .i64 b.id)/\Bw w W) ⟨K0.1,K0.2,HB⟩ ?_;rintro W ⟨c0,c1,hb⟩;have Hk:=kA hb;clear hb HB K0;go_wp2_with fail;refine (HC _).mono ?_;rintro e w1 ⟨rfl,rfl⟩;go_wp2;go_ret;exact⟨rfl,Hk⟩
theorem zdX(a b:Rc)(w:World):Calls prog 219 #[.agg (cRc a).toArray,.agg (cRc b).toArray] w λe w'=>e= .returned (.bool (a.id==b.id))/\Bw w w':=by
 have K0:Hid ((((w.alloc (.cells (cRc a).toArray 92)).alloc (.cells (cRc b).toArray 92)).cell? ⟨w.heap.size,0,none⟩=some (.int .i64 a.id))/\(((w.alloc (.cells (cRc a).toArray 92)).alloc (.cells (cRc b).toArray 92)).cell? ⟨w.heap.size+1,0,none⟩=some (.int .i64 b.id))):=kA ⟨((Blk.new w 92 (cRc a).toArray).alloc (.cells (cRc b).toArray 92)).cell 0,by
   have q:=(Blk.new (w.alloc (.cells (cRc a).toArray 92)) 92 (cRc b).toArray).cell 0;have e:(w.alloc (.cells (cRc a).toArray 92)).heap.size=w.heap.size+1:=by simp
   rw[e]at q
   exact q⟩
 have HB:Hid (Bw w ((w.alloc (.cells (cRc a).toArray 92)).alloc (.cells (cRc b).toArray 92))):=kA (zag (zaa _ _) _);obtain⟨A,hA⟩:∃A,A=(cRc a).toArray:=⟨_,rfl⟩;obtain⟨B,hB⟩:∃B,B=(cRc b).toArray:=⟨_,rfl⟩;rw[<-hA,<-hB]at K0 HB ⊢;clear hA hB;go_enter func219,ntmps219;go_upto_region 1 with fail;refine fin (λW=>W.cell? ⟨w.heap.size,0,none⟩=some (.int .i64 a.id)/\W.cell? ⟨w.heap.size+1,0,none⟩=some (.int .i64 b.id)/\Bw w W) ⟨K0.1,K0.2,HB⟩ ?_;rintro W ⟨c0,c1,hb⟩;have Hk:=kA hb;clear hb HB K0;go_wp2;go_ret;exact⟨rfl,Hk⟩
end Go.Proofs.YtlibdcmcbinfnaaGreat
