/- Lemmas. -/
import Derived.Test.YtlibdcmcbinfnaaGreatMS19
set_option maxHeartbeats 100000000
set_option maxRecDepth 1000000
namespace Go.Proofs.YtlibdcmcbinfnaaGreat
open _root_.Go.Proofs.Tryz List Nat
open Go.RowKit
theorem zg5{f:Int->List Int}:∀ {l:List Int} {j:Nat} {z:Int},(l.flatMap f)[j]? =some z->∃a∈l,∃k,(f a)[k]? =some z/\∀y∈(f a).take k,y∈(l.flatMap f).take j
 | [],j,z,h=>by simp at h
 | a::l,j,z,h=>by
  rw[flatMap_cons]at h
  by_cases c:j<(f a).length
  ·rw[getElem?_append_left c]at h;refine⟨a,mem_cons_self,j,h,λy hy=> ?_⟩;rw[flatMap_cons,take_append_of_le_length om];exact hy
  ·rw[getElem?_append_right om]at h;obtain⟨b,hb,k,h1,h2⟩:=zg5 h;refine⟨b,mem_cons_of_mem _ hb,k,h1,λy hy=> ?_⟩;rw[flatMap_cons,take_append,mem_append];exact .inr (h2 y hy)
theorem zre{L:FT}(h:(L.map Prod.fst).Nodup):∀ (n:Nat) (x:Int) {j:Nat} {z:Int},(zgN L n x)[j]? =some z->z=x∨∃y,zak L z=some y/\y∈(zgN L n x).take j
 | 0,x,j,z,hz=>by
  cases j with
  | zero=>simp[zgN]at hz;exact .inl hz.symm
  | succ j=>simp[zgN]at hz
 | n+1,x,j,z,hz=>by
  cases j with
  | zero=>simp[zgN]at hz;exact .inl hz.symm
  | succ j=>
   have ZX:((chF L x).flatMap (zgN L n))[j]? =some z:=by
    have:(x::(chF L x).flatMap (zgN L n))[j+1]? =some z:=hz;simpa using this
   obtain⟨c,hc,k,h1,h2⟩:=zg5 ZX;refine .inr ?_;show ∃y,_/\y∈(x::(chF L x).flatMap (zgN L n)).take (j+1);rw[take_succ_cons];rcases zre h n c h1 with rfl | ⟨y,hy,hm⟩
   ·exact⟨x,(zaA h).1 hc,mem_cons_self⟩
   ·exact⟨y,hy,mem_cons_of_mem _ (h2 y hm)⟩
variable{L:List Nd}{l P:List Int}{y x e:Int}{n:Nd}{D:FD}
theorem zvk{L:FT}(h:WF L){l:List Int}{j:Nat}{z y:Int}(hz:(zfK L l)[j]? =some z)(hy:zak L z=some y):y∈(zfK L l).take j∨y∉zfK L l:=by
 have kH:=hz;rw[zdv]at kH;obtain⟨t,ht,k,h1,h2⟩:=zg5 kH;rcases zre h.1 _ _ h1 with e | ⟨y',hy',hm⟩
 ·refine .inr (λhc=> ?_);obtain⟨a,ha,vt⟩:=(zga h).1 hc;unfold zne at ht;rw[mem_filter]at ht;have h3:a∈abv L t:=by
   rw[<-e,za0 h hy];rcases vt with rfl | vt
   ·exact mem_cons_self
   ·exact mem_cons_of_mem _ vt
  have h4:zec L (zff l) t=true:=by
   unfold zec;rw[any_eq_true];exact⟨a,h3,by simpa using zbY.2 ha⟩
  rw[h4]at ht;simp at ht
 ·rw[hy]at hy';injection hy' with q;subst q;rw[zdv];exact .inl (h2 _ hm)
theorem zfr(l:List Int):(zff l).Pairwise (·<·):=by
 have hs:=ziR l;unfold zff;rw[zkb];refine List.pairwise_map.2 ((List.Pairwise.filter _ pairwise_lt_range).imp_of_mem (fun {a b} ha hb c=> ?_));have Kh:=mem_filter.1 hb;have Ht:=mem_range.1 Kh.1;have k1:=zgO hs (show a<=b - 1 by omega) om;have k2:=zgO hs (show b - 1<=b by omega) Ht;have k3:(zbW l).getD b 0≠(zbW l).getD (b - 1) 0:=by
  have:=Kh.2;rw[Bool.or_eq_true,decide_eq_true_eq,decide_eq_true_eq]at this;rcases this with q | q
  ·omega
  ·exact q
 omega
theorem zwV{L:FT}{m:List Int}(h:∀z,z∈l↔z∈m):zfK L l=zfK L m:=by
 have hs:zff l=zff m:=zg0 (zfr l) (zfr m) (λz=>by rw[zbY,zbY,h]);rw[zdv,zdv];unfold zne;rw[hs]
theorem zlM{L:FT}(h:WF L)(x:Int):∀k,zgN L (L.length+k) x=beh L x/\hgt L (L.length+k) x
 | 0=>⟨rfl,ziz h x⟩
 | k+1=>by
  obtain⟨h1,h2⟩:=zlM h x k;exact⟨(zqD _ x h2).trans h1,zvc _ x h2⟩
theorem ztH{T U:FT}(hT:WF T)(hU:WF U){N:Int->Prop}{l:List Int}(hl:∀x∈l,N x)(hc:∀x,N x->chF T x=chF U x)(X8:∀x,N x->∀c∈chF T x,N c)(ha:∀x y,N x->N y->(y∈abv T x↔y∈abv U x)):zfK T l=zfK U l:=by
 have hb:∀ (n:Nat) (x:Int),N x->zgN T n x=zgN U n x:=by
  intro n
  induction n with
  | zero=>exact λ_ _=>rfl
  | succ n ih=>
   intro x hx;show x::(chF T x).flatMap (zgN T n)=x::(chF U x).flatMap (zgN U n);rw[<-hc x hx];congr 1;exact zca (λc k=>ih c (X8 x hx c k))
 have KD:∀x,N x->beh T x=beh U x:=λx hx=>by
  rw[<-(zlM hT x U.length).1,<-(zlM hU x T.length).1,Nat.add_comm U.length T.length];exact hb _ x hx
 have hN:∀x∈zff l,N x:=λx hx=>hl x (zbY.1 hx);have ht:zne T l=zne U l:=by
  unfold zne;refine filter_congr (λx hx=> ?_);congr 1;unfold zec;rw[Bool.eq_iff_iff,any_eq_true,any_eq_true];constructor
  ·rintro⟨a,h1,h2⟩;have h3:a∈zff l:=by simpa using h2
   exact⟨a,(ha x a (hN x hx) (hN a h3)).1 h1,h2⟩
  ·rintro⟨a,h1,h2⟩;have h3:a∈zff l:=by simpa using h2
   exact⟨a,(ha x a (hN x hx) (hN a h3)).2 h1,h2⟩
 rw[zdv,zdv,ht];refine zca (λx hx=>KD x (hN x ?_));rw[<-ht]at hx;unfold zne at hx;exact (mem_filter.1 hx).1
theorem zbZ{α:Type}{f:α->Int}{L:List α}{n:α}(h:elF f L x=some n):f n=x/\n∈L:=by
 unfold elF at h;exact⟨by simpa using find?_some h,mem_of_find?_eq_some h⟩
theorem zcY{α:Type}{f:α->Int}{L:List α} :elF f L x=none↔∀n∈L,f n≠x:=by
 unfold elF;rw[find?_eq_none];exact⟨λh n hn=>by simpa using h n hn,λh n hn=>by simpa using h n hn⟩
theorem zaM{α:Type}{f:α->Int}{L:List α} :(elF f L x).isSome=true↔∃n∈L,f n=x:=by
 cases h:elF f L x with
 | none=>
  exact⟨λc=>(by cases c),λ⟨n,hn,e⟩=>absurd e (zcY.1 h n hn)⟩
 | some n=>exact⟨λ_=>⟨n,(zbZ h).2,(zbZ h).1⟩,λ_=>rfl⟩
theorem zdT{α:Type}{f:α->Int}{L:List α}(hn:(L.map f).Nodup){n:α}(h:n∈L):elF f L (f n)=some n:=by
 unfold elF
 induction L with
 | nil=>cases h
 | cons m L ih=>
  rw[map_cons,nodup_cons]at hn;rw[find?_cons];rcases mem_cons.1 h with rfl | h
  ·simp
  ·have:f m≠f n:=λe=>hn.1 (mem_map.2 ⟨n,h,e.symm⟩);rw[show (f m==f n)=false by simpa using this];exact ih hn.2 h
theorem zbg:x∈zbJ L↔(elF Nd.id L x).isSome=true:=by
 unfold zbJ;rw[(za4 _).mem_iff,zaM,mem_map]
theorem zrf(L:List Nd):(zbJ L).length=L.length:=by
 unfold zbJ;rw[(za4 _).length_eq,length_map]
theorem zng(hW:WF (zaj L)){x y:Int}(h:y∈abv (zaj L) x):(elF Nd.id L y).isSome=true:=by
 have key:∀ (l:List Int) (x:Int),IsA (zaj L) x l->y∈l->(elF Nd.id L y).isSome=true:=by
  intro l
  induction l with
  | nil=>intro x _ hy;cases hy
  | cons a l ih=>
   intro x hx hy;rcases mem_cons.1 hy with rfl | hy
   ·have h1:=zeQ.1 (zbo hx.1);have h2:=zgc h1.2.1;rw[<-h1.2.2]at h2;exact zaM.2 h2
   ·exact ih a hx.2 hy
 exact key _ x (hW.isA x) h
theorem zeT(hW:WF (zaj L)){x:Int}:x∈zbA L↔(elF Nd.id L x).isSome=true:=by
 constructor
 ·intro h;obtain⟨n,e⟩:=ziJ hW h;rw[e];rfl
 ·intro h;exact (zga hW).2 ⟨x,zbg.2 h,.inl rfl⟩
def zdg(L:List Nd):List Int->Int->Option Stt × Int
 | [],x=>match elF Nd.id L x with
  | none=>(none,0)
  | some n=>(some ⟨n.id,n.pl,!n.hid⟩,0)
 | y::l,x=>match elF Nd.id L x with
  | none=>(none,0)
  | some n=>match (zdg L l y).1 with
   | none=>(none,0)
   | some u=>if 16<l.length+2 then (none,7) else if zaE u.wo n.pl=0 then (some ⟨n.id,zbB u.wo n.pl,u.sh && !n.hid⟩,0) else (none,zaE u.wo n.pl)
def zcd(L:List Nd)(x:Int):Option Stt × Int:=zdg L (abv (zaj L) x) x
theorem zes{L L':List Nd}:∀ {l:List Int} {x:Int},(∀y∈x::l,elF Nd.id L y=elF Nd.id L' y)->zdg L l x=zdg L' l x
 | [],x,h=>by unfold zdg;rw[h x mem_cons_self]
 | y::l,x,h=>by
  unfold zdg;rw[h x mem_cons_self,zes (λz hz=>h z (mem_cons_of_mem _ hz))]
theorem ztI{s:Stt}(h:(zdg L l x).1=some s):s.id=x/\(zdg L l x).2=0/\(elF Nd.id L x).isSome=true:=by
 cases l with
 | nil=>
  unfold zdg at h ⊢
  cases e:elF Nd.id L x with
  | none=>rw[e]at h;cases h
  | some n=>
   rw[e]at h;injection h with h;rw[<-h];exact⟨(zbZ e).1,rfl,rfl⟩
 | cons y l=>
  unfold zdg at h ⊢
  cases e:elF Nd.id L x with
  | none=>rw[e]at h;cases h
  | some n=>
   rw[e]at h
   cases q:(zdg L l y).1 with
   | none=>simp only[q]at h;cases h
   | some u=>
    simp only[q]at h ⊢
    by_cases c:16<l.length+2
    ·rw[if_pos c]at h;cases h
    ·rw[if_neg c]at h ⊢
     by_cases d:zaE u.wo n.pl=0
     ·rw[if_pos d]at h ⊢;injection h with h;rw[<-h];exact⟨(zbZ e).1,rfl,rfl⟩
     ·rw[if_neg d]at h;cases h
theorem zwW{s:Stt}(h:(zcd L x).1=some s):s.id=x/\(zcd L x).2=0/\(elF Nd.id L x).isSome=true:=ztI h
theorem zg6(h:elF Nd.id L x=none):zcd L x=(none,0):=by
 unfold zcd
 cases abv (zaj L) x with
 | nil=>unfold zdg;rw[h]
 | cons y l=>unfold zdg;rw[h]
section
variable {L:List Nd}
theorem zg8(hn:(L.map Nd.id).Nodup)(hW:WF (zaj L)){x:Int}{n:Nd}(h:elF Nd.id L x=some n)(hh:zaq L x<0):zcd L x=(some ⟨n.id,n.pl,!n.hid⟩,0):=by
 unfold zcd;rw[zeM hW (by rw[zav hn,if_neg om])];unfold zdg;rw[h]
theorem zlN(hn:(L.map Nd.id).Nodup)(hW:WF (zaj L)){x:Int}{n:Nd}(h:elF Nd.id L x=some n)(hh:0<=zaq L x):zcd L x=match (zcd L (zaq L x)).1 with
   | none=>(none,0)
   | some u=>if 16<(abv (zaj L) x).length+1 then (none,7) else if zaE u.wo n.pl=0 then (some ⟨n.id,zbB u.wo n.pl,u.sh && !n.hid⟩,0) else (none,zaE u.wo n.pl):=by
 have h1:=za0 hW (show zak (zaj L) x=some (zaq L x) by rw[zav hn,if_pos hh]);unfold zcd;rw[h1];show zdg L (zaq L x::_) x=_;rw[zdg,h];rfl
def zfs(L:List Nd)(P:List Int)(least e:Int):Prop:=(least= -1/\e=0/\∀x∈P,(zcd L x).2=0)∨(least∈P/\(zcd L least).2=e/\e≠0/\∀x∈P,(zcd L x).2≠0->least<=x)
theorem zhX:elF Stt.id (P.filterMap (λx=>(zcd L x).1)) y=if y∈P then (zcd L y).1 else none:=by
 induction P with
 | nil=>rfl
 | cons a P ih=>
  cases q:(zcd L a).1 with
  | none=>
   rw[filterMap_cons_none (f:=λx=>(zcd L x).1) q,ih]
   by_cases c:y∈P
   ·rw[if_pos c,if_pos (mem_cons_of_mem _ c)]
   ·rw[if_neg c]
    by_cases d:y=a
    ·rw[if_pos (by rw[d];exact mem_cons_self),d,q]
    ·rw[if_neg (λk=>(mem_cons.1 k).elim d c)]
  | some s=>
   rw[filterMap_cons_some (f:=λx=>(zcd L x).1) q];have hs:=(zwW q).1;unfold elF at ih ⊢;rw[find?_cons]
   by_cases d:y=a
   ·rw[if_pos (by rw[d];exact mem_cons_self),d,q,hs];simp
   ·rw[show (s.id==y)=false by rw[hs];simpa using λk=>d k.symm];rw[ih]
    by_cases c:y∈P
    ·rw[if_pos c,if_pos (mem_cons_of_mem _ c)]
    ·rw[if_neg c,if_neg (λk=>(mem_cons.1 k).elim d c)]
theorem ziS{least:Int}(h:zfs L P least e)(hx:(zcd L x).2=0):zfs L (P++[x]) least e:=by
 rcases h with ⟨h1,h2,h3⟩ | ⟨h1,h2,h3,h4⟩
 ·refine .inl ⟨h1,h2,λz hz=> ?_⟩;rcases mem_append.1 hz with q | q
  ·exact h3 z q
  ·rw[mem_singleton.1 q];exact hx
 ·refine .inr ⟨mem_append_left _ h1,h2,h3,λz hz hf=> ?_⟩;rcases mem_append.1 hz with q | q
  ·exact h4 z q hf
  ·rw[mem_singleton.1 q]at hf;exact absurd hx hf
theorem zkc{s:Acc}(hP:∀z∈P,0<=z)(h:zfs L P s.least s.e)(hx:(zcd L x).2=e)(he:e≠0):zfs L (P++[x]) (zox s x e).least (zox s x e).e/\(zox s x e).out=s.out:=by
 unfold zox
 by_cases c:s.least<0∨x<s.least
 ·rw[if_pos c];refine⟨.inr ⟨mem_append_right _ (mem_singleton.2 rfl),hx,he,λz hz hf=> ?_⟩,rfl⟩;show x<=z;rcases mem_append.1 hz with q | q
  ·rcases h with ⟨h1,h2,h3⟩ | ⟨h1,h2,h3,h4⟩
   ·exact absurd (h3 z q) hf
   ·have k1:=h4 z q hf;have k2:=hP _ h1;omega
  ·rw[mem_singleton.1 q];exact Int.le_refl _
 ·rw[if_neg c];refine⟨?_,rfl⟩;rcases h with ⟨h1,h2,h3⟩ | ⟨h1,h2,h3,h4⟩
  ·omega
  ·refine .inr ⟨mem_append_left _ h1,h2,h3,λz hz hf=> ?_⟩;rcases mem_append.1 hz with q | q
   ·exact h4 z q hf
   ·rw[mem_singleton.1 q];omega
theorem ziT(hn:(L.map Nd.id).Nodup)(hW:WF (zaj L))(KL:∀n∈L,0<=n.id):∀j,j<=(zbA L).length->(((zbA L).take j).foldl (ztr L) ⟨[],-1,0⟩).out=((zbA L).take j).filterMap (λx=>(zcd L x).1)/\zfs L ((zbA L).take j) (((zbA L).take j).foldl (ztr L) ⟨[],-1,0⟩).least (((zbA L).take j).foldl (ztr L) ⟨[],-1,0⟩).e
 | 0,_=>⟨rfl,.inl ⟨rfl,rfl,λx hx=>by simp at hx⟩⟩
 | j+1,hj=>by
  obtain⟨ZF,ZG⟩:=ziT hn hW KL j om;have hx:(zbA L)[j]? =some ((zbA L)[j]'(by omega)):=getElem?_eq_getElem om;obtain⟨x,ex⟩:∃x,x=(zbA L)[j]'(by omega):=⟨_,rfl⟩;rw[<-ex]at hx;rw[zqV hx];obtain⟨s,es⟩:∃s,s=((zbA L).take j).foldl (ztr L) ⟨[],-1,0⟩:=⟨_,rfl⟩;rw[<-es]at ZF ZG ⊢;have ht:(zbA L).take (j+1)=(zbA L).take j++[x]:=by rw[take_add_one,hx];rfl
  have hP:∀z∈(zbA L).take j,0<=z:=λz hz=>by
   obtain⟨n,e⟩:=ziJ hW (mem_of_mem_take hz);have:=KL n (zbZ e).2;rw[(zbZ e).1]at this;exact this
  rw[ht,filterMap_append,filterMap_cons,filterMap_nil];obtain⟨n,en⟩:=ziJ hW (mem_of_getElem? hx);have eid:=(zbZ en).1;unfold ztr;rw[en];simp only[eid]
  by_cases c:zaq L x<0
  ·rw[if_pos c];have hf:=zg8 hn hW en c;rw[hf,eid];exact⟨by rw[ZF],ziS ZG (by rw[hf])⟩
  ·rw[if_neg c];have hp:zak (zaj L) x=some (zaq L x):=by rw[zav hn,if_pos om]
   have hy:zaq L x∈(zbA L).take j:=by
    rcases zvk hW hx hp with q | q
    ·exact q
    ·exact absurd ((zeT hW).2 (zaM.2 (zgc (show 0<=zaq L x by omega)))) q
   have hf:=zlN hn hW en om;rw[ZF,zhX,if_pos hy]
   cases q:(zcd L (zaq L x)).1 with
   | none=>
    rw[q]at hf;rw[hf];exact⟨by rw[ZF];simp,ziS ZG (by rw[hf])⟩
   | some u=>
    rw[q]at hf;simp only at hf ⊢
    by_cases d:16<(abv (zaj L) x).length+1
    ·rw[if_pos d]at hf ⊢;have hb:=zkc hP ZG (x:=x) (e:=7) (by rw[hf]) om;rw[hf];exact⟨by rw[hb.2,ZF];simp,hb.1⟩
    ·rw[if_neg d]at hf ⊢
     by_cases e0:zaE u.wo n.pl=0
     ·rw[if_pos e0]at hf ⊢;rw[hf,eid];exact⟨by simp,ziS ZG (by rw[hf])⟩
     ·rw[if_neg e0]at hf ⊢;have hb:=zkc hP ZG (x:=x) (e:=zaE u.wo n.pl) (by rw[hf]) e0;rw[hf];exact⟨by rw[hb.2,ZF];simp,hb.1⟩
theorem zwX(hn:(L.map Nd.id).Nodup)(hW:WF (zaj L))(KL:∀n∈L,0<=n.id):(zpk L).out=(zbA L).filterMap (λx=>(zcd L x).1):=by
 have:=(ziT hn hW KL _ (Nat.le_refl _)).1;rw[take_length]at this;exact this
theorem zkd(hn:(L.map Nd.id).Nodup)(hW:WF (zaj L))(KL:∀n∈L,0<=n.id):zfs L (zbA L) (zpk L).least (zpk L).e:=by
 have:=(ziT hn hW KL _ (Nat.le_refl _)).2;rw[take_length]at this;exact this
theorem ztJ(hn:(L.map Nd.id).Nodup)(hW:WF (zaj L))(KL:∀n∈L,0<=n.id)(x:Int):elF Stt.id (zpk L).out x=(zcd L x).1:=by
 rw[zwX hn hW KL,zhX]
 by_cases c:x∈zbA L
 ·rw[if_pos c]
 ·rw[if_neg c,zg6]
  cases h:elF Nd.id L x with
  | none=>rfl
  | some n=>exact absurd ((zeT hW).2 (by rw[h];rfl)) c
theorem ztK(hn:(L.map Nd.id).Nodup)(hW:WF (zaj L))(KL:∀n∈L,0<=n.id)(h:(zpk L).e=0)(x:Int):(zcd L x).2=0:=by
 rcases zkd hn hW KL with ⟨_,_,h3⟩ | ⟨_,_,h3,_⟩
 ·by_cases c:x∈zbA L
  ·exact h3 x c
  ·rw[zg6]
   cases h:elF Nd.id L x with
   | none=>rfl
   | some n=>exact absurd ((zeT hW).2 (by rw[h];rfl)) c
 ·exact absurd h h3
theorem ztL(hn:(L.map Nd.id).Nodup)(hW:WF (zaj L))(h:∀x,(zcd L x).2=0){x:Int}(hx:(elF Nd.id L x).isSome=true):∃s,zcd L x=(some s,0):=by
 have key:∀ (l:List Int) (x:Int),IsA (zaj L) x l->(elF Nd.id L x).isSome=true->∃s,zcd L x=(some s,0):=by
  intro l
  induction l with
  | nil=>
   intro x hx hs;obtain⟨n,e⟩:=Option.isSome_iff_exists.1 hs;have h1:zak (zaj L) x=none:=hx;rw[zav hn]at h1
   by_cases c:0<=zaq L x
   ·rw[if_pos c]at h1;cases h1
   ·exact⟨_,zg8 hn hW e om⟩
  | cons y l ih=>
   intro x hx hs;obtain⟨n,e⟩:=Option.isSome_iff_exists.1 hs;have h1:=hx.1;rw[zav hn]at h1
   by_cases c:0<=zaq L x
   ·rw[if_pos c]at h1;injection h1 with h1;obtain⟨u,hu⟩:=ih y hx.2 (by rw[<-h1];exact zaM.2 (zgc c));have hf:=zlN hn hW e c;rw[h1,hu]at hf;simp only at hf;have h0:=h x
    by_cases d:16<(abv (zaj L) x).length+1
    ·rw[if_pos d]at hf;rw[hf]at h0;simp at h0
    ·rw[if_neg d]at hf
     by_cases e0:zaE u.wo n.pl=0
     ·rw[if_pos e0]at hf;exact⟨_,hf⟩
     ·rw[if_neg e0]at hf;rw[hf]at h0;exact absurd h0 e0
   ·rw[if_neg c]at h1;cases h1
 exact key _ x (hW.isA x) hx
end
structure DOk (D:FD):Prop where
 nod:(D.L.map Nd.id).Nodup
 wf:WF (zaj D.L)
 ok:∀n∈D.L,okM n.pl=true
 nn:∀n∈D.L,0<=n.id
 rg:∀n∈D.L,Rg n.id/\Rg n.par
 st:D.begun=true->∀x,(elF Nd.id D.L x).isSome=true->x∉zah D->∃s,zcd D.L x=(some s,0)/\elF Stt.id D.sts x=some s
theorem DOk.zero:DOk FD0:=⟨nodup_nil,WF.nil,λn h=>(by cases h),λn h=>(by cases h),λn h=>(by cases h),λh=>(by cases h)⟩
theorem zbj(hW:WF (zaj D.L)){x:Int}:x∈zah D↔∃y∈zbT D,x=y∨y∈abv (zaj D.L) x:=zga hW
theorem zb0(hb:D.begun=true){y:Int}:y∈zbT D↔y∈D.dirty/\(elF Nd.id D.L y).isSome=true:=by
 unfold zbT;rw[if_pos hb,mem_filter,decide_eq_true_eq,zbg]
theorem zhY(h:y∈zbT D):(elF Nd.id D.L y).isSome=true:=by
 by_cases hb:D.begun=true
 ·exact ((zb0 hb).1 h).2
 ·unfold zbT at h;rw[if_neg hb]at h;exact zbg.1 h
theorem zbn(hW:WF (zaj D.L)){x:Int}(h:x∈zah D):(elF Nd.id D.L x).isSome=true:=by
 obtain⟨y,hy,yc⟩:=(zbj hW).1 h;rcases yc with rfl | yc
 ·exact zhY hy
 ·have h1:=zlx hW yc;rw[zgX]at h1;obtain⟨m,hm,e⟩:=mem_map.1 h1;exact zaM.2 ⟨m,(mem_filter.1 hm).1,e⟩
theorem zdU(hW:WF (zaj D.L)):(zah D).length<=D.L.length:=by
 have:=zeb (m:=D.L.map Nd.id) (ziQ hW (zbT D)) (λz hz=>by
  obtain⟨n,hn,e⟩:=zaM.1 (zbn hW hz)
  exact mem_map.2 ⟨n,hn,e⟩)
 rw[length_map]at this;exact this
theorem ziU{L L':List Nd}{d:List Int}(hn:(L.map Nd.id).Nodup)(qe:(L'.map Nd.id).Nodup)(mS:∀y,y∉d->(elF Nd.id L' y).isSome=true->elF Nd.id L' y=elF Nd.id L y)
  (MN:∀y,y∉d->(elF Nd.id L' y).isSome=true->(0<=zaq L' y->zaq L' y∉d)->zaq L' y=zaq L y):
  ∀ (l:List Int) (x:Int),IsA (zaj L') x l->(elF Nd.id L' x).isSome=true->(∀y∈x::l,y∉d)->IsA (zaj L) x l/\∀y∈x::l,elF Nd.id L' y=elF Nd.id L y
 | [],x,h,hs,hd=>by
  have h0:¬0<=zaq L' x:=λc=>by
   have h1:zak (zaj L') x=none:=h;rw[zav qe,if_pos c]at h1
   cases h1
  have e:=MN x (hd x mem_cons_self) hs (λc=>absurd c h0);refine⟨?_,λy hy=>by rw[mem_singleton.1 hy];exact mS x (hd x mem_cons_self) hs⟩;show zak (zaj L) x=none;rw[zav hn,if_neg (by rw[<-e];exact h0)]
 | y::l,x,h,hs,hd=>by
  have h1:=h.1;rw[zav qe]at h1
  by_cases c:0<=zaq L' x
  ·rw[if_pos c]at h1;injection h1 with h1;have hy:(elF Nd.id L' y).isSome=true:=by rw[<-h1];exact zaM.2 (zgc c)
   have e:=MN x (hd x mem_cons_self) hs (λ_=>by rw[h1];exact hd y (mem_cons_of_mem _ mem_cons_self));obtain⟨k1,k2⟩:=ziU hn qe mS MN l y h.2 hy (λz hz=>hd z (mem_cons_of_mem _ hz));refine⟨⟨by rw[zav hn,if_pos (by rw[<-e];exact c),<-e,h1],k1⟩,λz hz=> ?_⟩;rcases mem_cons.1 hz with rfl | hz
   ·exact mS z (hd z mem_cons_self) hs
   ·exact k2 z hz
  ·rw[if_neg c]at h1;cases h1
theorem zrg{D':FD}(h:DOk D)(qe:(D'.L.map Nd.id).Nodup)(YX:WF (zaj D'.L))(hb:D'.begun=D.begun)(hs:D'.sts=D.sts)(hd:∀z∈D.dirty,z∈D'.dirty)
  (mS:∀y,y∉D'.dirty->(elF Nd.id D'.L y).isSome=true->elF Nd.id D'.L y=elF Nd.id D.L y)
  (MN:∀y,y∉D'.dirty->(elF Nd.id D'.L y).isSome=true->(0<=zaq D'.L y->zaq D'.L y∉D'.dirty)->zaq D'.L y=zaq D.L y):
  D'.begun=true->∀x,(elF Nd.id D'.L x).isSome=true->x∉zah D'->∃s,zcd D'.L x=(some s,0)/\elF Stt.id D'.sts x=some s:=by
 intro qu x hx ht
 have XE:∀y∈x::abv (zaj D'.L) x,y∉D'.dirty:=λy hy Mr=>ht ((zbj YX).2 (by
  rcases mem_cons.1 hy with rfl | hy
  ·exact⟨y,(zb0 qu).2 ⟨Mr,hx⟩,.inl rfl⟩
  ·exact⟨y,(zb0 qu).2 ⟨Mr,zng YX hy⟩,.inr hy⟩))
 obtain⟨k1,k2⟩:=ziU h.nod qe mS MN (abv (zaj D'.L) x) x (YX.isA x) hx XE;have ea:abv (zaj D.L) x=abv (zaj D'.L) x:=(h.wf.isA x).uniq k1
 obtain⟨s,f1,f2⟩:=h.st (hb ▸ qu) x (by rw[<-k2 x mem_cons_self];exact hx) (λc=>by
  obtain⟨y,hy,yc⟩:=(zbj h.wf).1 c;have Mr:=hd y ((zb0 (hb ▸ qu)).1 hy).1;refine XE y ?_ Mr;rcases yc with rfl | q
  ·exact mem_cons_self
  ·rw[ea]at q;exact mem_cons_of_mem _ q)
 refine⟨s,?_,by rw[hs];exact f2⟩;rw[<-f1];unfold zcd;rw[ea];exact zes k2
theorem zeU{L':List Nd}(qe:(L'.map Nd.id).Nodup){y:Int}(h:∀m:Nd,m.id=y->(m∈L↔m∈L')):elF Nd.id L y=elF Nd.id L' y:=by
 cases e:elF Nd.id L y with
 | none=>
  symm
  rw[zcY];exact λn hn q=>zcY.1 e n ((h n q).2 hn) q
 | some n=>
  have h1:=zbZ e;have:=zdT qe ((h n h1.1).1 h1.2);rw[h1.1]at this;exact this.symm
theorem zb1{m:Nd}:m∈zgW L n↔(m∈L/\m.id≠n.id)∨m=n:=by
 unfold zgW;rw[mem_append,mem_filter,mem_singleton];simp
theorem zeV(h:(L.map Nd.id).Nodup)(n:Nd):((zgW L n).map Nd.id).Nodup:=by
 unfold zgW;rw[map_append];refine nodup_append.2 ⟨h.sublist (List.Sublist.map _ filter_sublist),by simp,λa ha b hb e=> ?_⟩;obtain⟨m,hm,rfl⟩:=mem_map.1 ha;have h1:=(mem_filter.1 hm).2;simp at hb h1;exact h1 (e.trans hb)
theorem zcL:∀ (l:List Nd) {L:List Nd},(L.map Nd.id).Nodup->((withS L l).map Nd.id).Nodup
 | [],_,h=>h
 | n::l,_,h=>zcL l (zeV h n)
theorem zgd:∀ {l L:List Nd} {m:Nd},m∈withS L l->m∈L∨m∈l
 | [],_,_,h=>Or.inl h
 | n::l,L,m,h=>by
  rcases zgd (l:=l) (L:=zgW L n) h with q | q
  ·rcases zb1.1 q with q | rfl
   ·exact .inl q.1
   ·exact .inr mem_cons_self
  ·exact .inr (mem_cons_of_mem _ q)
theorem zcM:∀ {l L:List Nd} {m:Nd},m.id∉l.map Nd.id->(m∈withS L l↔m∈L)
 | [],_,_,_=>Iff.rfl
 | n::l,L,m,h=>by
  rw[map_cons,mem_cons,not_or]at h;have:=zcM (l:=l) (L:=zgW L n) (m:=m) h.2;refine this.trans ?_;rw[zb1];exact⟨λq=>q.elim And.left (λe=>absurd (congrArg Nd.id e) h.1),λq=>Or.inl ⟨q,h.1⟩⟩
theorem ziV:∀ {l L:List Nd} {x:Int},x∈(withS L l).map Nd.id↔x∈L.map Nd.id∨x∈l.map Nd.id
 | [],L,x=>by simp[withS]
 | n::l,L,x=>by
  have:=ziV (l:=l) (L:=zgW L n) (x:=x);refine this.trans ?_;rw[map_cons,mem_cons,<-or_assoc];refine or_congr ?_ Iff.rfl;rw[mem_map,mem_map];constructor
  ·rintro⟨m,hm,rfl⟩;rcases zb1.1 hm with q | rfl
   ·exact .inl ⟨m,q.1,rfl⟩
   ·exact .inr rfl
  ·rintro (⟨m,hm,rfl⟩ | rfl)
   ·by_cases c:m.id=n.id
    ·exact⟨n,zb1.2 (.inr rfl),c.symm⟩
    ·exact⟨m,zb1.2 (.inl ⟨hm,c⟩),rfl⟩
   ·exact⟨n,zb1.2 (.inr rfl),rfl⟩
theorem ziW:(elF Nd.id L x).isSome=true↔x∈L.map Nd.id:=by rw[zaM,mem_map]
theorem zd6{α:Type}{o:Option α}:o.isNone=true↔¬o.isSome=true:=by cases o <;> simp
theorem zft{l:List Nd}(h:zct D l=0):(∀n∈l,okM n.pl=true/\0<=n.id)/\∀n∈withS D.L l,zhz (withS D.L l) n.id=false:=by
 unfold zct at h
 by_cases c:l.any zhA=true
 ·rw[if_pos c]at h;omega
 ·rw[if_neg c]at h
  by_cases d:(withS D.L l).any (λn=>zhz (withS D.L l) n.id)=true
  ·rw[if_pos d]at h;omega
  ·refine⟨λn hn=> ?_,λn hn=> ?_⟩
   ·have h1:¬zhA n=true:=λq=>c (any_eq_true.2 ⟨n,hn,q⟩);unfold zhA at h1;rw[Bool.or_eq_true,Bool.not_eq_true',decide_eq_true_eq,not_or]at h1;exact⟨by simpa using h1.1,om⟩
   ·cases q:zhz (withS D.L l) n.id with
    | false=>rfl
    | true=>exact absurd (any_eq_true.2 ⟨n,hn,q⟩) d
theorem DOk.put(h:DOk D){l:List Nd}(hl:∀n∈l,Rg n.id/\Rg n.par):DOk (zcz D l):=by
 unfold zcz
 by_cases c:zct D l=0
 ·rw[if_pos c];obtain⟨h1,h2⟩:=zft c;have qe:((withS D.L l).map Nd.id).Nodup:=zcL l h.nod;have YX:=zlG qe h2;have mS:∀y,y∉D.dirty++l.map Nd.id->elF Nd.id (withS D.L l) y=elF Nd.id D.L y:=λy hy=>
   zeU h.nod (λm hm=>zcM (by rw[hm];exact λq=>hy (mem_append_right _ q)))
  refine⟨qe,YX,λn hn=> ?_,λn hn=> ?_,λn hn=> ?_,zrg (D:=D) (D':={ D with L:=withS D.L l,dirty:=D.dirty++l.map Nd.id }) h qe YX rfl rfl (λz hz=>mem_append_left _ hz) (λy hy _=>mS y hy) (λy hy hs hh=> ?_)⟩
  ·exact (zgd hn).elim (h.ok n) (λq=>(h1 n q).1)
  ·exact (zgd hn).elim (h.nn n) (λq=>(h1 n q).2)
  ·exact (zgd hn).elim (h.rg n) (hl n)
  ·obtain⟨n,e⟩:=Option.isSome_iff_exists.1 hs;have e':elF Nd.id D.L y=some n:=(mS y hy).symm.trans e;have k1:=zbm e;have k2:=zbm e';show zaq (withS D.L l) y=zaq D.L y;have MO:0<=zaq (withS D.L l) y->zaq (withS D.L l) y∉D.dirty++l.map Nd.id:=hh;rw[k1]at MO;rw[k1,k2]
   by_cases p0:n.par<0
   ·rw[if_pos (.inl p0),if_pos (.inl p0)]
   ·by_cases p1:(elF Nd.id (withS D.L l) n.par).isNone=true
    ·have p2:(elF Nd.id D.L n.par).isNone=true:=by
      rw[zd6,ziW]at p1 ⊢;exact λq=>p1 (ziV.2 (.inl q))
     rw[if_pos (.inr p1),if_pos (.inr p2)]
    ·rw[if_neg (λq=>q.elim p0 p1)]at MO ⊢;have:=mS _ (MO om);rw[this]at p1;rw[if_neg (λq=>q.elim p0 p1)]
 ·rw[if_neg c];exact h
theorem zeW(hn:(L.map Nd.id).Nodup){x y:Int}(hy:y≠x):zaq (L.filter (λm=>m.id != x)) y=zaq L y∨(zaq (L.filter (λm=>m.id != x)) y= -1/\zaq L y=x):=by
 have qe:((L.filter (λm=>m.id != x)).map Nd.id).Nodup:=hn.sublist (List.Sublist.map _ filter_sublist)
 have mS:∀z,z≠x->elF Nd.id (L.filter (λm=>m.id != x)) z=elF Nd.id L z:=λz hz=>zeU hn (λm hm=>by
  rw[mem_filter]
  exact⟨And.left,λq=>⟨q,by simp[hm,hz]⟩⟩)
 have hx:elF Nd.id (L.filter (λm=>m.id != x)) x=none:=zcY.2 (λm hm=>by
  have:=(mem_filter.1 hm).2
  simpa using this)
 cases e:elF Nd.id L y with
 | none=>exact .inl (by rw[zb9 e,zb9 ((mS y hy).trans e)])
 | some n=>
  have k1:=zbm e;have k2:=zbm ((mS y hy).trans e);rw[k1,k2]
  by_cases p0:n.par<0
  ·exact .inl (by rw[if_pos (.inl p0),if_pos (.inl p0)])
  ·by_cases qpx:n.par=x
   ·rw[if_pos (.inr (by rw[qpx,hx];rfl))]
    by_cases p1:(elF Nd.id L n.par).isNone=true
    ·exact .inl (by rw[if_pos (.inr p1)])
    ·exact .inr ⟨rfl,by rw[if_neg (λq=>q.elim p0 p1),qpx]⟩
   ·rw[mS _ qpx];exact .inl rfl
theorem zvl(hn:(L.map Nd.id).Nodup)(hW:WF (zaj L))(x:Int):WF (zaj (L.filter (λm=>m.id != x))):=by
 have qe:((L.filter (λm=>m.id != x)).map Nd.id).Nodup:=hn.sublist (List.Sublist.map _ filter_sublist);refine⟨zdP qe,?_⟩
 have hx:elF Nd.id (L.filter (λm=>m.id != x)) x=none:=zcY.2 (λm hm=>by
  have:=(mem_filter.1 hm).2
  simpa using this)
 have key:∀ (l:List Int) (y:Int),IsA (zaj L) y l->∃l',IsA (zaj (L.filter (λm=>m.id != x))) y l':=by
  intro l
  induction l with
  | nil=>
   intro y h;have h1:zak (zaj L) y=none:=h;rw[zav hn]at h1;refine⟨[],?_⟩;show zak _ _=none;rw[zav qe]
   by_cases c:y=x
   ·rw[if_neg (by rw[c,zb9 hx];omega)]
   ·rcases zeW hn c with q | q
    ·rw[q];exact h1
    ·rw[if_neg (by rw[q.1];omega)]
  | cons z l ih=>
   intro y h;have h1:=h.1;rw[zav hn]at h1
   by_cases c:y=x
   ·exact⟨[],by show zak _ _=none;rw[zav qe,if_neg (by rw[c,zb9 hx];omega)]⟩
   ·rcases zeW hn c with q | q
    ·obtain⟨l',h2⟩:=ih z h.2;exact⟨z::l',by rw[zav qe,q];exact h1,h2⟩
    ·exact⟨[],by show zak _ _=none;rw[zav qe,if_neg (by rw[q.1];omega)]⟩
 intro y;exact key _ y (hW.isA y)
theorem DOk.drop(h:DOk D)(x:Int):DOk (za2 D x):=by
 unfold za2
 by_cases c:zcw D x=true
 ·rw[if_pos c];have qe:((D.L.filter (λm=>m.id != x)).map Nd.id).Nodup:=h.nod.sublist (List.Sublist.map _ filter_sublist);have YX:=zvl h.nod h.wf x;have Vh:∀n∈D.L.filter (λm=>m.id != x),n∈D.L:=λn hn=>(mem_filter.1 hn).1;refine⟨qe,YX,λn hn=>h.ok n (Vh n hn),λn hn=>h.nn n (Vh n hn),λn hn=>h.rg n (Vh n hn),zrg (D:=D) (D':={ D with L:=D.L.filter (λm=>m.id != x),dirty:=D.dirty++(D.L.filter (λn=>zaq D.L n.id==x)).map Nd.id }) h qe YX rfl rfl (λz hz=>mem_append_left _ hz) (λy _ hs=> ?_) (λy hy hs _=> ?_)⟩
  ·obtain⟨n,hn,e⟩:=zaM.1 hs;have Ho:y≠x:=by
    have:=(mem_filter.1 hn).2;rw[<-e];simpa using this
   exact zeU h.nod (λm hm=>by
    rw[mem_filter]
    exact⟨And.left,λq=>⟨q,by simp[hm,Ho]⟩⟩)
  ·obtain⟨n,hn,e⟩:=zaM.1 hs;have Ho:y≠x:=by
    have:=(mem_filter.1 hn).2;rw[<-e];simpa using this
   rcases zeW h.nod Ho with q | q
   ·exact q
   ·exact absurd (mem_append_right _ (mem_map.2 ⟨n,mem_filter.2 ⟨Vh n hn,by simp[e,q.2]⟩,e⟩)) hy
 ·rw[if_neg c];exact h
theorem DOk.run(h:DOk D):DOk (zc4 D):=by
 refine⟨h.nod,h.wf,h.ok,h.nn,h.rg,λhb x hx _=> ?_⟩;have qu:zey D=0:=of_decide_eq_true hb;have hz:=ztK h.nod h.wf h.nn qu;obtain⟨s,hs⟩:=ztL h.nod h.wf hz (x:=x) hx;refine⟨s,hs,?_⟩;show elF Stt.id (if zey D=0 then (zpk D.L).out else []) x=some s
 rw[if_pos qu,ztJ h.nod h.wf h.nn,hs]
def zbr(D:FD)(xs:List Int):FD:=xs.foldl za2 D
def zeX:FD->List Int->Nat
 | _,[]=>0
 | D,x::xs=>(if zcw D x then 1 else 0)+zeX (za2 D x) xs
theorem DOk.drops:∀ (xs:List Int) {D:FD},DOk D->DOk (zbr D xs)
 | [],_,h=>h
 | x::xs,_,h=>DOk.drops xs (h.drop x)
theorem zhZ{xs:List Int}{k:Nat}(h:xs[k]? =some x):zbr D (xs.take (k+1))=za2 (zbr D (xs.take k)) x:=by
 unfold zbr;rw[take_add_one,h,foldl_append];rfl
theorem zh0:∀ {xs:List Int} {D:FD} {k:Nat} {x:Int},xs[k]? =some x->zeX D (xs.take (k+1))=zeX D (xs.take k)+(if zcw (zbr D (xs.take k)) x then 1 else 0)
 | [],_,_,_,h=>by simp at h
 | a::xs,D,0,x,h=>by
  simp at h;subst h;show (if zcw D a then 1 else 0)+0=0+_
  rw[Nat.add_zero,Nat.zero_add];rfl
 | a::xs,D,k+1,x,h=>by
  have ih:=zh0 (xs:=xs) (D:=za2 D a) (k:=k) (x:=x) (by simpa using h);rw[take_succ_cons,take_succ_cons];show _+zeX (za2 D a) (xs.take (k+1))=_+zeX (za2 D a) (xs.take k)+_;rw[ih,Nat.add_assoc];rfl
theorem znh:∀ (xs:List Int) (D:FD),zeX D xs<=xs.length
 | [],_=>Nat.le_refl _
 | x::xs,D=>by
  have:=znh xs (za2 D x);show (if zcw D x then 1 else 0)+zeX (za2 D x) xs<=xs.length+1
  split <;> omega
theorem zrh(D:FD)(x:Int):(za2 D x).L.length<=D.L.length/\(za2 D x).dirty.length<=D.dirty.length+D.L.length/\(za2 D x).steps=D.steps:=by
 unfold za2
 by_cases c:zcw D x=true
 ·rw[if_pos c];refine⟨length_filter_le _ _,?_,rfl⟩;show (D.dirty++_).length<=_;rw[length_append,length_map];have:=length_filter_le (λn=>zaq D.L n.id==x) D.L;omega
 ·rw[if_neg c];exact⟨om,om,rfl⟩
theorem zfu:∀ (xs:List Int) (D:FD) (m:Nat),D.L.length<=m->(zbr D xs).L.length<=D.L.length/\(zbr D xs).dirty.length<=D.dirty.length+xs.length*m/\(zbr D xs).steps=D.steps
 | [],D,m,h=>⟨Nat.le_refl _,by simp[zbr],rfl⟩
 | x::xs,D,m,h=>by
  obtain⟨a1,a2,a3⟩:=zrh D x;obtain⟨b1,b2,b3⟩:=zfu xs (za2 D x) m om;refine⟨Nat.le_trans b1 a1,?_,b3.trans a3⟩;show (zbr (za2 D x) xs).dirty.length<=_;rw[length_cons,Nat.add_mul];omega
structure Bd10 (a m:Nat) (D:FD):Prop where
 l:D.L.length<=m
 d:D.dirty.length<=200*m
 s:D.steps<=200*a
theorem zg9(h:y<0):∀k,zgV L k y=y
 | 0=>rfl
 | k+1=>by
  show (if 0<=y then _ else y)=y
  rw[if_neg om]
theorem zke(hn:(L.map Nd.id).Nodup)(hW:WF (zaj L))(x:Int):zhz L x=false:=by
 have key:∀ (l:List Int) (y:Int) (k:Nat),IsA (zaj L) y l->l.length<k->zgV L k y<0∨(y<0/\zgV L k y=y):=by
  intro l
  induction l with
  | nil=>
   intro y k h hk
   by_cases c:y<0
   ·exact .inr ⟨c,zg9 c k⟩
   ·obtain⟨k',rfl⟩:∃k',k=k'+1:=⟨k - 1,by simp at hk;omega⟩;have h1:zak (zaj L) y=none:=h;rw[zav hn]at h1;have h2:zaq L y<0:=by
     by_cases d:0<=zaq L y
     ·rw[if_pos d]at h1;cases h1
     ·omega
    refine .inl ?_;show (if 0<=y then zgV L k' (zaq L y) else y)<0
    rw[if_pos om,zg9 h2];exact h2
  | cons z l ih=>
   intro y k h hk
   by_cases c:y<0
   ·exact .inr ⟨c,zg9 c k⟩
   ·obtain⟨k',rfl⟩:∃k',k=k'+1:=⟨k - 1,by simp at hk;omega⟩;have h1:=h.1;rw[zav hn]at h1
    by_cases d:0<=zaq L y
    ·rw[if_pos d]at h1;injection h1 with h1;refine .inl ?_;show (if 0<=y then zgV L k' (zaq L y) else y)<0
     rw[if_pos om,h1];rcases ih z k' h.2 (by simp at hk;omega) with q | q
     ·exact q
     ·rw[q.2];exact q.1
    ·rw[if_neg d]at h1;cases h1
 unfold zhz;have h1:=zlw hW (zaq L x);have h2:=zjV L;have:=key _ (zaq L x) (L.length+1) (hW.isA _) om;exact decide_eq_false om
end Go.Proofs.YtlibdcmcbinfnaaGreat
