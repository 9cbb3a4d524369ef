/- Lemmas. -/
import Derived.Test.YtlibdcmcbinfnaaGreatMA19
set_option maxHeartbeats 100000000
set_option maxRecDepth 1000000
namespace Go.Proofs.YtlibdcmcbinfnaaGreat
open _root_.Go.Proofs.Tryz List Nat
open Go.RowKit
theorem zha{f:Int->List Int}:∀ {l:List Int} {j:Nat} {z:Int},(l.flatMap f)[j]? =some z->∃a∈l,∃k,(f a)[k]? =some z/\∀y∈(f a).take k,y∈(l.flatMap f).take j
 | [],j,z,h=>by simp at h
 | a::l,j,z,h=>by
  rw[flatMap_cons]at h
  by_cases c:j<(f a).length
  ·rw[getElem?_append_left c]at h;refine⟨a,mem_cons_self,j,h,λy hy=> ?_⟩;rw[flatMap_cons,take_append_of_le_length om];exact hy
  ·rw[getElem?_append_right om]at h;obtain⟨b,hb,k,h1,h2⟩:=zha h;refine⟨b,mem_cons_of_mem _ hb,k,h1,λy hy=> ?_⟩;rw[flatMap_cons,take_append,mem_append];exact .inr (h2 y hy)
theorem zrh{L:FT}(h:(L.map Prod.fst).Nodup):∀ (n:Nat) (x:Int) {j:Nat} {z:Int},(zgR L n x)[j]? =some z->z=x∨∃y,zak L z=some y/\y∈(zgR L n x).take j
 | 0,x,j,z,hz=>by
  cases j with
  | zero=>simp[zgR]at hz;exact .inl hz.symm
  | succ j=>simp[zgR]at hz
 | n+1,x,j,z,hz=>by
  cases j with
  | zero=>simp[zgR]at hz;exact .inl hz.symm
  | succ j=>
   have yH:((chF L x).flatMap (zgR L n))[j]? =some z:=by
    have:(x::(chF L x).flatMap (zgR L n))[j+1]? =some z:=hz;simpa using this
   obtain⟨c,hc,k,h1,h2⟩:=zha yH;refine .inr ?_;show ∃y,_/\y∈(x::(chF L x).flatMap (zgR L n)).take (j+1);rw[take_succ_cons];rcases zrh h n c h1 with rfl | ⟨y,hy,hm⟩
   ·exact⟨x,(zaA h).1 hc,mem_cons_self⟩
   ·exact⟨y,hy,mem_cons_of_mem _ (h2 y hm)⟩
variable{L:List Nd}{l P:List Int}{y x e:Int}{n:Nd}{D:FD}
theorem zvs{L:FT}(h:WF L){l:List Int}{j:Nat}{z y:Int}(hz:(zfO L l)[j]? =some z)(hy:zak L z=some y):y∈(zfO L l).take j∨y∉zfO L l:=by
 have kH:=hz;rw[zdw]at kH;obtain⟨t,ht,k,h1,h2⟩:=zha kH;rcases zrh h.1 _ _ h1 with e | ⟨y',hy',hm⟩
 ·refine .inr (λhc=> ?_);obtain⟨a,ha,Su⟩:=(zgd h).1 hc;unfold znk at ht;rw[mem_filter]at ht;have h3:a∈abv L t:=by
   rw[<-e,za0 h hy];rcases Su with rfl | Su
   ·exact mem_cons_self
   ·exact mem_cons_of_mem _ Su
  have h4:zeg L (zfi l) t=true:=by
   unfold zeg;rw[any_eq_true];exact⟨a,h3,by simpa using zb0.2 ha⟩
  rw[h4]at ht;simp at ht
 ·rw[hy]at hy';injection hy' with q;subst q;rw[zdw];exact .inl (h2 _ hm)
theorem zfu(l:List Int):(zfi l).Pairwise (·<·):=by
 have hs:=ziW l;unfold zfi;rw[zki];refine List.pairwise_map.2 ((List.Pairwise.filter _ pairwise_lt_range).imp_of_mem (fun {a b} ha hb c=> ?_));have Kd:=mem_filter.1 hb;have Ho:=mem_range.1 Kd.1;have k1:=zgS hs (show a<=b - 1 by omega) om;have k2:=zgS hs (show b - 1<=b by omega) Ho;have k3:(zbY l).getD b 0≠(zbY l).getD (b - 1) 0:=by
  have:=Kd.2;rw[Bool.or_eq_true,decide_eq_true_eq,decide_eq_true_eq]at this;rcases this with q | q
  ·omega
  ·exact q
 omega
theorem zw2{L:FT}{m:List Int}(h:∀z,z∈l↔z∈m):zfO L l=zfO L m:=by
 have hs:zfi l=zfi m:=zg5 (zfu l) (zfu m) (λz=>by rw[zb0,zb0,h]);rw[zdw,zdw];unfold znk;rw[hs]
theorem zlS{L:FT}(h:WF L)(x:Int):∀k,zgR L (L.length+k) x=beh L x/\hgt L (L.length+k) x
 | 0=>⟨rfl,ziD h x⟩
 | k+1=>by
  obtain⟨h1,h2⟩:=zlS h x k;exact⟨(zqG _ x h2).trans h1,zvi _ x h2⟩
theorem ztM{T U:FT}(hT:WF T)(hU:WF U){N:Int->Prop}{l:List Int}(hl:∀x∈l,N x)(hc:∀x,N x->chF T x=chF U x)(XT:∀x,N x->∀c∈chF T x,N c)(ha:∀x y,N x->N y->(y∈abv T x↔y∈abv U x)):zfO T l=zfO U l:=by
 have hb:∀ (n:Nat) (x:Int),N x->zgR T n x=zgR U n x:=by
  intro n
  induction n with
  | zero=>exact λ_ _=>rfl
  | succ n ih=>
   intro x hx;show x::(chF T x).flatMap (zgR T n)=x::(chF U x).flatMap (zgR U n);rw[<-hc x hx];congr 1;exact zcc (λc k=>ih c (XT x hx c k))
 have Kt:∀x,N x->beh T x=beh U x:=λx hx=>by
  rw[<-(zlS hT x U.length).1,<-(zlS hU x T.length).1,Nat.add_comm U.length T.length];exact hb _ x hx
 have hN:∀x∈zfi l,N x:=λx hx=>hl x (zb0.1 hx);have ht:znk T l=znk U l:=by
  unfold znk;refine filter_congr (λx hx=> ?_);congr 1;unfold zeg;rw[Bool.eq_iff_iff,any_eq_true,any_eq_true];constructor
  ·rintro⟨a,h1,h2⟩;have h3:a∈zfi l:=by simpa using h2
   exact⟨a,(ha x a (hN x hx) (hN a h3)).1 h1,h2⟩
  ·rintro⟨a,h1,h2⟩;have h3:a∈zfi l:=by simpa using h2
   exact⟨a,(ha x a (hN x hx) (hN a h3)).2 h1,h2⟩
 rw[zdw,zdw,ht];refine zcc (λx hx=>Kt x (hN x ?_));rw[<-ht]at hx;unfold znk at hx;exact (mem_filter.1 hx).1
theorem zb1{α:Type}{f:α->Int}{L:List α}{n:α}(h:elF f L x=some n):f n=x/\n∈L:=by
 unfold elF at h;exact⟨by simpa using find?_some h,mem_of_find?_eq_some h⟩
theorem zcZ{α:Type}{f:α->Int}{L:List α} :elF f L x=none↔∀n∈L,f n≠x:=by
 unfold elF;rw[find?_eq_none];exact⟨λh n hn=>by simpa using h n hn,λh n hn=>by simpa using h n hn⟩
theorem zaN{α:Type}{f:α->Int}{L:List α} :(elF f L x).isSome=true↔∃n∈L,f n=x:=by
 cases h:elF f L x with
 | none=>
  exact⟨λc=>(by cases c),λ⟨n,hn,e⟩=>absurd e (zcZ.1 h n hn)⟩
 | some n=>exact⟨λ_=>⟨n,(zb1 h).2,(zb1 h).1⟩,λ_=>rfl⟩
theorem zdg{α:Type}{f:α->Int}{L:List α}(hn:(L.map f).Nodup){n:α}(h:n∈L):elF f L (f n)=some n:=by
 unfold elF
 induction L with
 | nil=>cases h
 | cons m L ih=>
  rw[map_cons,nodup_cons]at hn;rw[find?_cons];rcases mem_cons.1 h with rfl | h
  ·simp
  ·have:f m≠f n:=λe=>hn.1 (mem_map.2 ⟨n,h,e.symm⟩);rw[show (f m==f n)=false by simpa using this];exact ih hn.2 h
theorem zbg:x∈zbJ L↔(elF Nd.id L x).isSome=true:=by
 unfold zbJ;rw[(za4 _).mem_iff,zaN,mem_map]
theorem zri(L:List Nd):(zbJ L).length=L.length:=by
 unfold zbJ;rw[(za4 _).length_eq,length_map]
theorem znm(hW:WF (zaj L)){x y:Int}(h:y∈abv (zaj L) x):(elF Nd.id L y).isSome=true:=by
 have key:∀ (l:List Int) (x:Int),IsA (zaj L) x l->y∈l->(elF Nd.id L y).isSome=true:=by
  intro l
  induction l with
  | nil=>intro x _ hy;cases hy
  | cons a l ih=>
   intro x hx hy;rcases mem_cons.1 hy with rfl | hy
   ·have h1:=zeT.1 (zbp hx.1);have h2:=zgf h1.2.1;rw[<-h1.2.2]at h2;exact zaN.2 h2
   ·exact ih a hx.2 hy
 exact key _ x (hW.isA x) h
theorem zdh(hW:WF (zaj L)){x:Int}:x∈zbq L↔(elF Nd.id L x).isSome=true:=by
 constructor
 ·intro h;obtain⟨n,e⟩:=ziO hW h;rw[e];rfl
 ·intro h;exact (zgd hW).2 ⟨x,zbg.2 h,.inl rfl⟩
def zdi(L:List Nd):List Int->Int->Option Stt × Int
 | [],x=>match elF Nd.id L x with
  | none=>(none,0)
  | some n=>(some ⟨n.id,n.pl,!n.hid⟩,0)
 | y::l,x=>match elF Nd.id L x with
  | none=>(none,0)
  | some n=>match (zdi L l y).1 with
   | none=>(none,0)
   | some u=>if 16<l.length+2 then (none,7) else if zaG u.wo n.pl=0 then (some ⟨n.id,zbB u.wo n.pl,u.sh && !n.hid⟩,0) else (none,zaG u.wo n.pl)
def zb2(L:List Nd)(x:Int):Option Stt × Int:=zdi L (abv (zaj L) x) x
theorem zdx{L L':List Nd}:∀ {l:List Int} {x:Int},(∀y∈x::l,elF Nd.id L y=elF Nd.id L' y)->zdi L l x=zdi L' l x
 | [],x,h=>by unfold zdi;rw[h x mem_cons_self]
 | y::l,x,h=>by
  unfold zdi;rw[h x mem_cons_self,zdx (λz hz=>h z (mem_cons_of_mem _ hz))]
theorem ztN{s:Stt}(h:(zdi L l x).1=some s):s.id=x/\(zdi L l x).2=0/\(elF Nd.id L x).isSome=true:=by
 cases l with
 | nil=>
  unfold zdi at h ⊢
  cases e:elF Nd.id L x with
  | none=>rw[e]at h;cases h
  | some n=>
   rw[e]at h;injection h with h;rw[<-h];exact⟨(zb1 e).1,rfl,rfl⟩
 | cons y l=>
  unfold zdi at h ⊢
  cases e:elF Nd.id L x with
  | none=>rw[e]at h;cases h
  | some n=>
   rw[e]at h
   cases q:(zdi L l y).1 with
   | none=>simp only[q]at h;cases h
   | some u=>
    simp only[q]at h ⊢
    by_cases c:16<l.length+2
    ·rw[if_pos c]at h;cases h
    ·rw[if_neg c]at h ⊢
     by_cases d:zaG u.wo n.pl=0
     ·rw[if_pos d]at h ⊢;injection h with h;rw[<-h];exact⟨(zb1 e).1,rfl,rfl⟩
     ·rw[if_neg d]at h;cases h
theorem zw3{s:Stt}(h:(zb2 L x).1=some s):s.id=x/\(zb2 L x).2=0/\(elF Nd.id L x).isSome=true:=ztN h
theorem zev(h:elF Nd.id L x=none):zb2 L x=(none,0):=by
 unfold zb2
 cases abv (zaj L) x with
 | nil=>unfold zdi;rw[h]
 | cons y l=>unfold zdi;rw[h]
section
variable {L:List Nd}
theorem zhb(hn:(L.map Nd.id).Nodup)(hW:WF (zaj L)){x:Int}{n:Nd}(h:elF Nd.id L x=some n)(hh:zap L x<0):zb2 L x=(some ⟨n.id,n.pl,!n.hid⟩,0):=by
 unfold zb2;rw[zeP hW (by rw[zau hn,if_neg om])];unfold zdi;rw[h]
theorem zlT(hn:(L.map Nd.id).Nodup)(hW:WF (zaj L)){x:Int}{n:Nd}(h:elF Nd.id L x=some n)(hh:0<=zap L x):zb2 L x=match (zb2 L (zap L x)).1 with
   | none=>(none,0)
   | some u=>if 16<(abv (zaj L) x).length+1 then (none,7) else if zaG u.wo n.pl=0 then (some ⟨n.id,zbB u.wo n.pl,u.sh && !n.hid⟩,0) else (none,zaG u.wo n.pl):=by
 have h1:=za0 hW (show zak (zaj L) x=some (zap L x) by rw[zau hn,if_pos hh]);unfold zb2;rw[h1];show zdi L (zap L x::_) x=_;rw[zdi,h];rfl
def zfv(L:List Nd)(P:List Int)(least e:Int):Prop:=(least= -1/\e=0/\∀x∈P,(zb2 L x).2=0)∨(least∈P/\(zb2 L least).2=e/\e≠0/\∀x∈P,(zb2 L x).2≠0->least<=x)
theorem zh2:elF Stt.id (P.filterMap (λx=>(zb2 L x).1)) y=if y∈P then (zb2 L y).1 else none:=by
 induction P with
 | nil=>rfl
 | cons a P ih=>
  cases q:(zb2 L a).1 with
  | none=>
   rw[filterMap_cons_none (f:=λx=>(zb2 L x).1) q,ih]
   by_cases c:y∈P
   ·rw[if_pos c,if_pos (mem_cons_of_mem _ c)]
   ·rw[if_neg c]
    by_cases d:y=a
    ·rw[if_pos (by rw[d];exact mem_cons_self),d,q]
    ·rw[if_neg (λk=>(mem_cons.1 k).elim d c)]
  | some s=>
   rw[filterMap_cons_some (f:=λx=>(zb2 L x).1) q];have hs:=(zw3 q).1;unfold elF at ih ⊢;rw[find?_cons]
   by_cases d:y=a
   ·rw[if_pos (by rw[d];exact mem_cons_self),d,q,hs];simp
   ·rw[show (s.id==y)=false by rw[hs];simpa using λk=>d k.symm];rw[ih]
    by_cases c:y∈P
    ·rw[if_pos c,if_pos (mem_cons_of_mem _ c)]
    ·rw[if_neg c,if_neg (λk=>(mem_cons.1 k).elim d c)]
theorem ziX{least:Int}(h:zfv L P least e)(hx:(zb2 L x).2=0):zfv L (P++[x]) least e:=by
 rcases h with ⟨h1,h2,h3⟩ | ⟨h1,h2,h3,h4⟩
 ·refine .inl ⟨h1,h2,λz hz=> ?_⟩;rcases mem_append.1 hz with q | q
  ·exact h3 z q
  ·rw[mem_singleton.1 q];exact hx
 ·refine .inr ⟨mem_append_left _ h1,h2,h3,λz hz hf=> ?_⟩;rcases mem_append.1 hz with q | q
  ·exact h4 z q hf
  ·rw[mem_singleton.1 q]at hf;exact absurd hx hf
theorem zkj{s:Acc}(hP:∀z∈P,0<=z)(h:zfv L P s.least s.e)(hx:(zb2 L x).2=e)(he:e≠0):zfv L (P++[x]) (zoD s x e).least (zoD s x e).e/\(zoD s x e).out=s.out:=by
 unfold zoD
 by_cases c:s.least<0∨x<s.least
 ·rw[if_pos c];refine⟨.inr ⟨mem_append_right _ (mem_singleton.2 rfl),hx,he,λz hz hf=> ?_⟩,rfl⟩;show x<=z;rcases mem_append.1 hz with q | q
  ·rcases h with ⟨h1,h2,h3⟩ | ⟨h1,h2,h3,h4⟩
   ·exact absurd (h3 z q) hf
   ·have k1:=h4 z q hf;have k2:=hP _ h1;omega
  ·rw[mem_singleton.1 q];exact Int.le_refl _
 ·rw[if_neg c];refine⟨?_,rfl⟩;rcases h with ⟨h1,h2,h3⟩ | ⟨h1,h2,h3,h4⟩
  ·omega
  ·refine .inr ⟨mem_append_left _ h1,h2,h3,λz hz hf=> ?_⟩;rcases mem_append.1 hz with q | q
   ·exact h4 z q hf
   ·rw[mem_singleton.1 q];omega
theorem ziY(hn:(L.map Nd.id).Nodup)(hW:WF (zaj L))(Ka:∀n∈L,0<=n.id):∀j,j<=(zbq L).length->(((zbq L).take j).foldl (ztw L) ⟨[],-1,0⟩).out=((zbq L).take j).filterMap (λx=>(zb2 L x).1)/\zfv L ((zbq L).take j) (((zbq L).take j).foldl (ztw L) ⟨[],-1,0⟩).least (((zbq L).take j).foldl (ztw L) ⟨[],-1,0⟩).e
 | 0,_=>⟨rfl,.inl ⟨rfl,rfl,λx hx=>by simp at hx⟩⟩
 | j+1,hj=>by
  obtain⟨QS,QT⟩:=ziY hn hW Ka j om;have hx:(zbq L)[j]? =some ((zbq L)[j]'(by omega)):=getElem?_eq_getElem om;obtain⟨x,ex⟩:∃x,x=(zbq L)[j]'(by omega):=⟨_,rfl⟩;rw[<-ex]at hx;rw[zqY hx];obtain⟨s,es⟩:∃s,s=((zbq L).take j).foldl (ztw L) ⟨[],-1,0⟩:=⟨_,rfl⟩;rw[<-es]at QS QT ⊢;have ht:(zbq L).take (j+1)=(zbq L).take j++[x]:=by rw[take_add_one,hx];rfl
  have hP:∀z∈(zbq L).take j,0<=z:=λz hz=>by
   obtain⟨n,e⟩:=ziO hW (mem_of_mem_take hz);have:=Ka n (zb1 e).2;rw[(zb1 e).1]at this;exact this
  rw[ht,filterMap_append,filterMap_cons,filterMap_nil];obtain⟨n,en⟩:=ziO hW (mem_of_getElem? hx);have eid:=(zb1 en).1;unfold ztw;rw[en];simp only[eid]
  by_cases c:zap L x<0
  ·rw[if_pos c];have hf:=zhb hn hW en c;rw[hf,eid];exact⟨by rw[QS],ziX QT (by rw[hf])⟩
  ·rw[if_neg c];have hp:zak (zaj L) x=some (zap L x):=by rw[zau hn,if_pos om]
   have hy:zap L x∈(zbq L).take j:=by
    rcases zvs hW hx hp with q | q
    ·exact q
    ·exact absurd ((zdh hW).2 (zaN.2 (zgf (show 0<=zap L x by omega)))) q
   have hf:=zlT hn hW en om;rw[QS,zh2,if_pos hy]
   cases q:(zb2 L (zap L x)).1 with
   | none=>
    rw[q]at hf;rw[hf];exact⟨by rw[QS];simp,ziX QT (by rw[hf])⟩
   | some u=>
    rw[q]at hf;simp only at hf ⊢
    by_cases d:16<(abv (zaj L) x).length+1
    ·rw[if_pos d]at hf ⊢;have hb:=zkj hP QT (x:=x) (e:=7) (by rw[hf]) om;rw[hf];exact⟨by rw[hb.2,QS];simp,hb.1⟩
    ·rw[if_neg d]at hf ⊢
     by_cases e0:zaG u.wo n.pl=0
     ·rw[if_pos e0]at hf ⊢;rw[hf,eid];exact⟨by simp,ziX QT (by rw[hf])⟩
     ·rw[if_neg e0]at hf ⊢;have hb:=zkj hP QT (x:=x) (e:=zaG u.wo n.pl) (by rw[hf]) e0;rw[hf];exact⟨by rw[hb.2,QS];simp,hb.1⟩
theorem zw4(hn:(L.map Nd.id).Nodup)(hW:WF (zaj L))(Ka:∀n∈L,0<=n.id):(ziM L).out=(zbq L).filterMap (λx=>(zb2 L x).1):=by
 have:=(ziY hn hW Ka _ (Nat.le_refl _)).1;rw[take_length]at this;exact this
theorem zeW(hn:(L.map Nd.id).Nodup)(hW:WF (zaj L))(Ka:∀n∈L,0<=n.id):zfv L (zbq L) (ziM L).least (ziM L).e:=by
 have:=(ziY hn hW Ka _ (Nat.le_refl _)).2;rw[take_length]at this;exact this
theorem ztO(hn:(L.map Nd.id).Nodup)(hW:WF (zaj L))(Ka:∀n∈L,0<=n.id)(x:Int):elF Stt.id (ziM L).out x=(zb2 L x).1:=by
 rw[zw4 hn hW Ka,zh2]
 by_cases c:x∈zbq L
 ·rw[if_pos c]
 ·rw[if_neg c,zev]
  cases h:elF Nd.id L x with
  | none=>rfl
  | some n=>exact absurd ((zdh hW).2 (by rw[h];rfl)) c
theorem ztP(hn:(L.map Nd.id).Nodup)(hW:WF (zaj L))(Ka:∀n∈L,0<=n.id)(h:(ziM L).e=0)(x:Int):(zb2 L x).2=0:=by
 rcases zeW hn hW Ka with ⟨_,_,h3⟩ | ⟨_,_,h3,_⟩
 ·by_cases c:x∈zbq L
  ·exact h3 x c
  ·rw[zev]
   cases h:elF Nd.id L x with
   | none=>rfl
   | some n=>exact absurd ((zdh hW).2 (by rw[h];rfl)) c
 ·exact absurd h h3
theorem ztQ(hn:(L.map Nd.id).Nodup)(hW:WF (zaj L))(h:∀x,(zb2 L x).2=0){x:Int}(hx:(elF Nd.id L x).isSome=true):∃s,zb2 L x=(some s,0):=by
 have key:∀ (l:List Int) (x:Int),IsA (zaj L) x l->(elF Nd.id L x).isSome=true->∃s,zb2 L x=(some s,0):=by
  intro l
  induction l with
  | nil=>
   intro x hx hs;obtain⟨n,e⟩:=Option.isSome_iff_exists.1 hs;have h1:zak (zaj L) x=none:=hx;rw[zau hn]at h1
   by_cases c:0<=zap L x
   ·rw[if_pos c]at h1;cases h1
   ·exact⟨_,zhb hn hW e om⟩
  | cons y l ih=>
   intro x hx hs;obtain⟨n,e⟩:=Option.isSome_iff_exists.1 hs;have h1:=hx.1;rw[zau hn]at h1
   by_cases c:0<=zap L x
   ·rw[if_pos c]at h1;injection h1 with h1;obtain⟨u,hu⟩:=ih y hx.2 (by rw[<-h1];exact zaN.2 (zgf c));have hf:=zlT hn hW e c;rw[h1,hu]at hf;simp only at hf;have h0:=h x
    by_cases d:16<(abv (zaj L) x).length+1
    ·rw[if_pos d]at hf;rw[hf]at h0;simp at h0
    ·rw[if_neg d]at hf
     by_cases e0:zaG u.wo n.pl=0
     ·rw[if_pos e0]at hf;exact⟨_,hf⟩
     ·rw[if_neg e0]at hf;rw[hf]at h0;exact absurd h0 e0
   ·rw[if_neg c]at h1;cases h1
 exact key _ x (hW.isA x) hx
end
structure DOk (D:FD):Prop where
 nod:(D.L.map Nd.id).Nodup
 wf:WF (zaj D.L)
 ok:∀n∈D.L,okM n.pl=true
 nn:∀n∈D.L,0<=n.id
 rg:∀n∈D.L,Rg n.id/\Rg n.par
 st:D.begun=true->∀x,(elF Nd.id D.L x).isSome=true->x∉zah D->∃s,zb2 D.L x=(some s,0)/\elF Stt.id D.sts x=some s
theorem DOk.zero:DOk FD0:=⟨nodup_nil,WF.nil,λn h=>(by cases h),λn h=>(by cases h),λn h=>(by cases h),λh=>(by cases h)⟩
theorem zbk(hW:WF (zaj D.L)){x:Int}:x∈zah D↔∃y∈zbU D,x=y∨y∈abv (zaj D.L) x:=zgd hW
theorem zb3(hb:D.begun=true){y:Int}:y∈zbU D↔y∈D.dirty/\(elF Nd.id D.L y).isSome=true:=by
 unfold zbU;rw[if_pos hb,mem_filter,decide_eq_true_eq,zbg]
theorem zh3(h:y∈zbU D):(elF Nd.id D.L y).isSome=true:=by
 by_cases hb:D.begun=true
 ·exact ((zb3 hb).1 h).2
 ·unfold zbU at h;rw[if_neg hb]at h;exact zbg.1 h
theorem zbo(hW:WF (zaj D.L)){x:Int}(h:x∈zah D):(elF Nd.id D.L x).isSome=true:=by
 obtain⟨y,hy,xG⟩:=(zbk hW).1 h;rcases xG with rfl | xG
 ·exact zh3 hy
 ·have h1:=zlD hW xG;rw[zg1]at h1;obtain⟨m,hm,e⟩:=mem_map.1 h1;exact zaN.2 ⟨m,(mem_filter.1 hm).1,e⟩
theorem zdX(hW:WF (zaj D.L)):(zah D).length<=D.L.length:=by
 have:=zef (m:=D.L.map Nd.id) (ziV hW (zbU D)) (λz hz=>by
  obtain⟨n,hn,e⟩:=zaN.1 (zbo hW hz)
  exact mem_map.2 ⟨n,hn,e⟩)
 rw[length_map]at this;exact this
theorem zgg{L L':List Nd}{d:List Int}(hn:(L.map Nd.id).Nodup)(kB:(L'.map Nd.id).Nodup)(dz:∀y,y∉d->(elF Nd.id L' y).isSome=true->elF Nd.id L' y=elF Nd.id L y)
  (ZQ:∀y,y∉d->(elF Nd.id L' y).isSome=true->(0<=zap L' y->zap L' y∉d)->zap L' y=zap L y):
  ∀ (l:List Int) (x:Int),IsA (zaj L') x l->(elF Nd.id L' x).isSome=true->(∀y∈x::l,y∉d)->IsA (zaj L) x l/\∀y∈x::l,elF Nd.id L' y=elF Nd.id L y
 | [],x,h,hs,hd=>by
  have h0:¬0<=zap L' x:=λc=>by
   have h1:zak (zaj L') x=none:=h;rw[zau kB,if_pos c]at h1
   cases h1
  have e:=ZQ x (hd x mem_cons_self) hs (λc=>absurd c h0);refine⟨?_,λy hy=>by rw[mem_singleton.1 hy];exact dz x (hd x mem_cons_self) hs⟩;show zak (zaj L) x=none;rw[zau hn,if_neg (by rw[<-e];exact h0)]
 | y::l,x,h,hs,hd=>by
  have h1:=h.1;rw[zau kB]at h1
  by_cases c:0<=zap L' x
  ·rw[if_pos c]at h1;injection h1 with h1;have hy:(elF Nd.id L' y).isSome=true:=by rw[<-h1];exact zaN.2 (zgf c)
   have e:=ZQ x (hd x mem_cons_self) hs (λ_=>by rw[h1];exact hd y (mem_cons_of_mem _ mem_cons_self));obtain⟨k1,k2⟩:=zgg hn kB dz ZQ l y h.2 hy (λz hz=>hd z (mem_cons_of_mem _ hz));refine⟨⟨by rw[zau hn,if_pos (by rw[<-e];exact c),<-e,h1],k1⟩,λz hz=> ?_⟩;rcases mem_cons.1 hz with rfl | hz
   ·exact dz z (hd z mem_cons_self) hs
   ·exact k2 z hz
  ·rw[if_neg c]at h1;cases h1
theorem zrj{D':FD}(h:DOk D)(kB:(D'.L.map Nd.id).Nodup)(kY:WF (zaj D'.L))(hb:D'.begun=D.begun)(hs:D'.sts=D.sts)(hd:∀z∈D.dirty,z∈D'.dirty)
  (dz:∀y,y∉D'.dirty->(elF Nd.id D'.L y).isSome=true->elF Nd.id D'.L y=elF Nd.id D.L y)
  (ZQ:∀y,y∉D'.dirty->(elF Nd.id D'.L y).isSome=true->(0<=zap D'.L y->zap D'.L y∉D'.dirty)->zap D'.L y=zap D.L y):
  D'.begun=true->∀x,(elF Nd.id D'.L x).isSome=true->x∉zah D'->∃s,zb2 D'.L x=(some s,0)/\elF Stt.id D'.sts x=some s:=by
 intro dh x hx ht
 have DJ:∀y∈x::abv (zaj D'.L) x,y∉D'.dirty:=λy hy YC=>ht ((zbk kY).2 (by
  rcases mem_cons.1 hy with rfl | hy
  ·exact⟨y,(zb3 dh).2 ⟨YC,hx⟩,.inl rfl⟩
  ·exact⟨y,(zb3 dh).2 ⟨YC,znm kY hy⟩,.inr hy⟩))
 obtain⟨k1,k2⟩:=zgg h.nod kB dz ZQ (abv (zaj D'.L) x) x (kY.isA x) hx DJ;have ea:abv (zaj D.L) x=abv (zaj D'.L) x:=(h.wf.isA x).uniq k1
 obtain⟨s,f1,f2⟩:=h.st (hb ▸ dh) x (by rw[<-k2 x mem_cons_self];exact hx) (λc=>by
  obtain⟨y,hy,xG⟩:=(zbk h.wf).1 c;have YC:=hd y ((zb3 (hb ▸ dh)).1 hy).1;refine DJ y ?_ YC;rcases xG with rfl | q
  ·exact mem_cons_self
  ·rw[ea]at q;exact mem_cons_of_mem _ q)
 refine⟨s,?_,by rw[hs];exact f2⟩;rw[<-f1];unfold zb2;rw[ea];exact zdx k2
theorem zeX{L':List Nd}(kB:(L'.map Nd.id).Nodup){y:Int}(h:∀m:Nd,m.id=y->(m∈L↔m∈L')):elF Nd.id L y=elF Nd.id L' y:=by
 cases e:elF Nd.id L y with
 | none=>
  symm
  rw[zcZ];exact λn hn q=>zcZ.1 e n ((h n q).2 hn) q
 | some n=>
  have h1:=zb1 e;have:=zdg kB ((h n h1.1).1 h1.2);rw[h1.1]at this;exact this.symm
theorem zb4{m:Nd}:m∈zg0 L n↔(m∈L/\m.id≠n.id)∨m=n:=by
 unfold zg0;rw[mem_append,mem_filter,mem_singleton];simp
theorem zeY(h:(L.map Nd.id).Nodup)(n:Nd):((zg0 L n).map Nd.id).Nodup:=by
 unfold zg0;rw[map_append];refine nodup_append.2 ⟨h.sublist (List.Sublist.map _ filter_sublist),by simp,λa ha b hb e=> ?_⟩;obtain⟨m,hm,rfl⟩:=mem_map.1 ha;have h1:=(mem_filter.1 hm).2;simp at hb h1;exact h1 (e.trans hb)
theorem zcK:∀ (l:List Nd) {L:List Nd},(L.map Nd.id).Nodup->((withS L l).map Nd.id).Nodup
 | [],_,h=>h
 | n::l,_,h=>zcK l (zeY h n)
theorem zgh:∀ {l L:List Nd} {m:Nd},m∈withS L l->m∈L∨m∈l
 | [],_,_,h=>Or.inl h
 | n::l,L,m,h=>by
  rcases zgh (l:=l) (L:=zg0 L n) h with q | q
  ·rcases zb4.1 q with q | rfl
   ·exact .inl q.1
   ·exact .inr mem_cons_self
  ·exact .inr (mem_cons_of_mem _ q)
theorem zcL:∀ {l L:List Nd} {m:Nd},m.id∉l.map Nd.id->(m∈withS L l↔m∈L)
 | [],_,_,_=>Iff.rfl
 | n::l,L,m,h=>by
  rw[map_cons,mem_cons,not_or]at h;have:=zcL (l:=l) (L:=zg0 L n) (m:=m) h.2;refine this.trans ?_;rw[zb4];exact⟨λq=>q.elim And.left (λe=>absurd (congrArg Nd.id e) h.1),λq=>Or.inl ⟨q,h.1⟩⟩
theorem ziZ:∀ {l L:List Nd} {x:Int},x∈(withS L l).map Nd.id↔x∈L.map Nd.id∨x∈l.map Nd.id
 | [],L,x=>by simp[withS]
 | n::l,L,x=>by
  have:=ziZ (l:=l) (L:=zg0 L n) (x:=x);refine this.trans ?_;rw[map_cons,mem_cons,<-or_assoc];refine or_congr ?_ Iff.rfl;rw[mem_map,mem_map];constructor
  ·rintro⟨m,hm,rfl⟩;rcases zb4.1 hm with q | rfl
   ·exact .inl ⟨m,q.1,rfl⟩
   ·exact .inr rfl
  ·rintro (⟨m,hm,rfl⟩ | rfl)
   ·by_cases c:m.id=n.id
    ·exact⟨n,zb4.2 (.inr rfl),c.symm⟩
    ·exact⟨m,zb4.2 (.inl ⟨hm,c⟩),rfl⟩
   ·exact⟨n,zb4.2 (.inr rfl),rfl⟩
theorem zi0:(elF Nd.id L x).isSome=true↔x∈L.map Nd.id:=by rw[zaN,mem_map]
theorem zd9{α:Type}{o:Option α}:o.isNone=true↔¬o.isSome=true:=by cases o <;> simp
theorem zfw{l:List Nd}(h:zct D l=0):(∀n∈l,okM n.pl=true/\0<=n.id)/\∀n∈withS D.L l,zhE (withS D.L l) n.id=false:=by
 unfold zct at h
 by_cases c:l.any zhF=true
 ·rw[if_pos c]at h;omega
 ·rw[if_neg c]at h
  by_cases d:(withS D.L l).any (λn=>zhE (withS D.L l) n.id)=true
  ·rw[if_pos d]at h;omega
  ·refine⟨λn hn=> ?_,λn hn=> ?_⟩
   ·have h1:¬zhF n=true:=λq=>c (any_eq_true.2 ⟨n,hn,q⟩);unfold zhF at h1;rw[Bool.or_eq_true,Bool.not_eq_true',decide_eq_true_eq,not_or]at h1;exact⟨by simpa using h1.1,om⟩
   ·cases q:zhE (withS D.L l) n.id with
    | false=>rfl
    | true=>exact absurd (any_eq_true.2 ⟨n,hn,q⟩) d
theorem DOk.put(h:DOk D){l:List Nd}(hl:∀n∈l,Rg n.id/\Rg n.par):DOk (zcu D l):=by
 unfold zcu
 by_cases c:zct D l=0
 ·rw[if_pos c];obtain⟨h1,h2⟩:=zfw c;have kB:((withS D.L l).map Nd.id).Nodup:=zcK l h.nod;have kY:=zlM kB h2;have dz:∀y,y∉D.dirty++l.map Nd.id->elF Nd.id (withS D.L l) y=elF Nd.id D.L y:=λy hy=>
   zeX h.nod (λm hm=>zcL (by rw[hm];exact λq=>hy (mem_append_right _ q)))
  refine⟨kB,kY,λn hn=> ?_,λn hn=> ?_,λn hn=> ?_,zrj (D:=D) (D':={ D with L:=withS D.L l,dirty:=D.dirty++l.map Nd.id }) h kB kY rfl rfl (λz hz=>mem_append_left _ hz) (λy hy _=>dz y hy) (λy hy hs hh=> ?_)⟩
  ·exact (zgh hn).elim (h.ok n) (λq=>(h1 n q).1)
  ·exact (zgh hn).elim (h.nn n) (λq=>(h1 n q).2)
  ·exact (zgh hn).elim (h.rg n) (hl n)
  ·obtain⟨n,e⟩:=Option.isSome_iff_exists.1 hs;have e':elF Nd.id D.L y=some n:=(dz y hy).symm.trans e;have k1:=zbn e;have k2:=zbn e';show zap (withS D.L l) y=zap D.L y;have ZR:0<=zap (withS D.L l) y->zap (withS D.L l) y∉D.dirty++l.map Nd.id:=hh;rw[k1]at ZR;rw[k1,k2]
   by_cases p0:n.par<0
   ·rw[if_pos (.inl p0),if_pos (.inl p0)]
   ·by_cases p1:(elF Nd.id (withS D.L l) n.par).isNone=true
    ·have p2:(elF Nd.id D.L n.par).isNone=true:=by
      rw[zd9,zi0]at p1 ⊢;exact λq=>p1 (ziZ.2 (.inl q))
     rw[if_pos (.inr p1),if_pos (.inr p2)]
    ·rw[if_neg (λq=>q.elim p0 p1)]at ZR ⊢;have:=dz _ (ZR om);rw[this]at p1;rw[if_neg (λq=>q.elim p0 p1)]
 ·rw[if_neg c];exact h
theorem zeZ(hn:(L.map Nd.id).Nodup){x y:Int}(hy:y≠x):zap (L.filter (λm=>m.id != x)) y=zap L y∨(zap (L.filter (λm=>m.id != x)) y= -1/\zap L y=x):=by
 have kB:((L.filter (λm=>m.id != x)).map Nd.id).Nodup:=hn.sublist (List.Sublist.map _ filter_sublist)
 have dz:∀z,z≠x->elF Nd.id (L.filter (λm=>m.id != x)) z=elF Nd.id L z:=λz hz=>zeX hn (λm hm=>by
  rw[mem_filter]
  exact⟨And.left,λq=>⟨q,by simp[hm,hz]⟩⟩)
 have hx:elF Nd.id (L.filter (λm=>m.id != x)) x=none:=zcZ.2 (λm hm=>by
  have:=(mem_filter.1 hm).2
  simpa using this)
 cases e:elF Nd.id L y with
 | none=>exact .inl (by rw[zcb e,zcb ((dz y hy).trans e)])
 | some n=>
  have k1:=zbn e;have k2:=zbn ((dz y hy).trans e);rw[k1,k2]
  by_cases p0:n.par<0
  ·exact .inl (by rw[if_pos (.inl p0),if_pos (.inl p0)])
  ·by_cases qpx:n.par=x
   ·rw[if_pos (.inr (by rw[qpx,hx];rfl))]
    by_cases p1:(elF Nd.id L n.par).isNone=true
    ·exact .inl (by rw[if_pos (.inr p1)])
    ·exact .inr ⟨rfl,by rw[if_neg (λq=>q.elim p0 p1),qpx]⟩
   ·rw[dz _ qpx];exact .inl rfl
theorem zvt(hn:(L.map Nd.id).Nodup)(hW:WF (zaj L))(x:Int):WF (zaj (L.filter (λm=>m.id != x))):=by
 have kB:((L.filter (λm=>m.id != x)).map Nd.id).Nodup:=hn.sublist (List.Sublist.map _ filter_sublist);refine⟨zdT kB,?_⟩
 have hx:elF Nd.id (L.filter (λm=>m.id != x)) x=none:=zcZ.2 (λm hm=>by
  have:=(mem_filter.1 hm).2
  simpa using this)
 have key:∀ (l:List Int) (y:Int),IsA (zaj L) y l->∃l',IsA (zaj (L.filter (λm=>m.id != x))) y l':=by
  intro l
  induction l with
  | nil=>
   intro y h;have h1:zak (zaj L) y=none:=h;rw[zau hn]at h1;refine⟨[],?_⟩;show zak _ _=none;rw[zau kB]
   by_cases c:y=x
   ·rw[if_neg (by rw[c,zcb hx];omega)]
   ·rcases zeZ hn c with q | q
    ·rw[q];exact h1
    ·rw[if_neg (by rw[q.1];omega)]
  | cons z l ih=>
   intro y h;have h1:=h.1;rw[zau hn]at h1
   by_cases c:y=x
   ·exact⟨[],by show zak _ _=none;rw[zau kB,if_neg (by rw[c,zcb hx];omega)]⟩
   ·rcases zeZ hn c with q | q
    ·obtain⟨l',h2⟩:=ih z h.2;exact⟨z::l',by rw[zau kB,q];exact h1,h2⟩
    ·exact⟨[],by show zak _ _=none;rw[zau kB,if_neg (by rw[q.1];omega)]⟩
 intro y;exact key _ y (hW.isA y)
theorem DOk.drop(h:DOk D)(x:Int):DOk (za2 D x):=by
 unfold za2
 by_cases c:zcx D x=true
 ·rw[if_pos c];have kB:((D.L.filter (λm=>m.id != x)).map Nd.id).Nodup:=h.nod.sublist (List.Sublist.map _ filter_sublist);have kY:=zvt h.nod h.wf x;have Cm:∀n∈D.L.filter (λm=>m.id != x),n∈D.L:=λn hn=>(mem_filter.1 hn).1;refine⟨kB,kY,λn hn=>h.ok n (Cm n hn),λn hn=>h.nn n (Cm n hn),λn hn=>h.rg n (Cm n hn),zrj (D:=D) (D':={ D with L:=D.L.filter (λm=>m.id != x),dirty:=D.dirty++(D.L.filter (λn=>zap D.L n.id==x)).map Nd.id }) h kB kY rfl rfl (λz hz=>mem_append_left _ hz) (λy _ hs=> ?_) (λy hy hs _=> ?_)⟩
  ·obtain⟨n,hn,e⟩:=zaN.1 hs;have Hd:y≠x:=by
    have:=(mem_filter.1 hn).2;rw[<-e];simpa using this
   exact zeX h.nod (λm hm=>by
    rw[mem_filter]
    exact⟨And.left,λq=>⟨q,by simp[hm,Hd]⟩⟩)
  ·obtain⟨n,hn,e⟩:=zaN.1 hs;have Hd:y≠x:=by
    have:=(mem_filter.1 hn).2;rw[<-e];simpa using this
   rcases zeZ h.nod Hd with q | q
   ·exact q
   ·exact absurd (mem_append_right _ (mem_map.2 ⟨n,mem_filter.2 ⟨Cm n hn,by simp[e,q.2]⟩,e⟩)) hy
 ·rw[if_neg c];exact h
theorem DOk.run(h:DOk D):DOk (zc4 D):=by
 refine⟨h.nod,h.wf,h.ok,h.nn,h.rg,λhb x hx _=> ?_⟩;have dh:zeC D=0:=of_decide_eq_true hb;have hz:=ztP h.nod h.wf h.nn dh;obtain⟨s,hs⟩:=ztQ h.nod h.wf hz (x:=x) hx;refine⟨s,hs,?_⟩;show elF Stt.id (if zeC D=0 then (ziM D.L).out else []) x=some s
 rw[if_pos dh,ztO h.nod h.wf h.nn,hs]
def zbs(D:FD)(xs:List Int):FD:=xs.foldl za2 D
def ze0:FD->List Int->Nat
 | _,[]=>0
 | D,x::xs=>(if zcx D x then 1 else 0)+ze0 (za2 D x) xs
theorem DOk.drops:∀ (xs:List Int) {D:FD},DOk D->DOk (zbs D xs)
 | [],_,h=>h
 | x::xs,_,h=>DOk.drops xs (h.drop x)
theorem zh4{xs:List Int}{k:Nat}(h:xs[k]? =some x):zbs D (xs.take (k+1))=za2 (zbs D (xs.take k)) x:=by
 unfold zbs;rw[take_add_one,h,foldl_append];rfl
theorem zh5:∀ {xs:List Int} {D:FD} {k:Nat} {x:Int},xs[k]? =some x->ze0 D (xs.take (k+1))=ze0 D (xs.take k)+(if zcx (zbs D (xs.take k)) x then 1 else 0)
 | [],_,_,_,h=>by simp at h
 | a::xs,D,0,x,h=>by
  simp at h;subst h;show (if zcx D a then 1 else 0)+0=0+_
  rw[Nat.add_zero,Nat.zero_add];rfl
 | a::xs,D,k+1,x,h=>by
  have ih:=zh5 (xs:=xs) (D:=za2 D a) (k:=k) (x:=x) (by simpa using h);rw[take_succ_cons,take_succ_cons];show _+ze0 (za2 D a) (xs.take (k+1))=_+ze0 (za2 D a) (xs.take k)+_;rw[ih,Nat.add_assoc];rfl
theorem znn:∀ (xs:List Int) (D:FD),ze0 D xs<=xs.length
 | [],_=>Nat.le_refl _
 | x::xs,D=>by
  have:=znn xs (za2 D x);show (if zcx D x then 1 else 0)+ze0 (za2 D x) xs<=xs.length+1
  split <;> omega
theorem zrk(D:FD)(x:Int):(za2 D x).L.length<=D.L.length/\(za2 D x).dirty.length<=D.dirty.length+D.L.length/\(za2 D x).steps=D.steps:=by
 unfold za2
 by_cases c:zcx D x=true
 ·rw[if_pos c];refine⟨length_filter_le _ _,?_,rfl⟩;show (D.dirty++_).length<=_;rw[length_append,length_map];have:=length_filter_le (λn=>zap D.L n.id==x) D.L;omega
 ·rw[if_neg c];exact⟨om,om,rfl⟩
theorem zfx:∀ (xs:List Int) (D:FD) (m:Nat),D.L.length<=m->(zbs D xs).L.length<=D.L.length/\(zbs D xs).dirty.length<=D.dirty.length+xs.length*m/\(zbs D xs).steps=D.steps
 | [],D,m,h=>⟨Nat.le_refl _,by simp[zbs],rfl⟩
 | x::xs,D,m,h=>by
  obtain⟨a1,a2,a3⟩:=zrk D x;obtain⟨b1,b2,b3⟩:=zfx xs (za2 D x) m om;refine⟨Nat.le_trans b1 a1,?_,b3.trans a3⟩;show (zbs (za2 D x) xs).dirty.length<=_;rw[length_cons,Nat.add_mul];omega
structure Bd10 (a m:Nat) (D:FD):Prop where
 l:D.L.length<=m
 d:D.dirty.length<=200*m
 s:D.steps<=200*a
theorem zhc(h:y<0):∀k,zgZ L k y=y
 | 0=>rfl
 | k+1=>by
  show (if 0<=y then _ else y)=y
  rw[if_neg om]
theorem zkk(hn:(L.map Nd.id).Nodup)(hW:WF (zaj L))(x:Int):zhE L x=false:=by
 have key:∀ (l:List Int) (y:Int) (k:Nat),IsA (zaj L) y l->l.length<k->zgZ L k y<0∨(y<0/\zgZ L k y=y):=by
  intro l
  induction l with
  | nil=>
   intro y k h hk
   by_cases c:y<0
   ·exact .inr ⟨c,zhc c k⟩
   ·obtain⟨k',rfl⟩:∃k',k=k'+1:=⟨k - 1,by simp at hk;omega⟩;have h1:zak (zaj L) y=none:=h;rw[zau hn]at h1;have h2:zap L y<0:=by
     by_cases d:0<=zap L y
     ·rw[if_pos d]at h1;cases h1
     ·omega
    refine .inl ?_;show (if 0<=y then zgZ L k' (zap L y) else y)<0
    rw[if_pos om,zhc h2];exact h2
  | cons z l ih=>
   intro y k h hk
   by_cases c:y<0
   ·exact .inr ⟨c,zhc c k⟩
   ·obtain⟨k',rfl⟩:∃k',k=k'+1:=⟨k - 1,by simp at hk;omega⟩;have h1:=h.1;rw[zau hn]at h1
    by_cases d:0<=zap L y
    ·rw[if_pos d]at h1;injection h1 with h1;refine .inl ?_;show (if 0<=y then zgZ L k' (zap L y) else y)<0
     rw[if_pos om,h1];rcases ih z k' h.2 (by simp at hk;omega) with q | q
     ·exact q
     ·rw[q.2];exact q.1
    ·rw[if_neg d]at h1;cases h1
 unfold zhE;have h1:=zlC hW (zap L x);have h2:=zj2 L;have:=key _ (zap L x) (L.length+1) (hW.isA _) om;exact decide_eq_false om
end Go.Proofs.YtlibdcmcbinfnaaGreat
