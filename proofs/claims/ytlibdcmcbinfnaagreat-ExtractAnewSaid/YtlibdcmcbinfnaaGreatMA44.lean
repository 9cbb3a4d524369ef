/- Lemmas. -/
import Derived.Test.YtlibdcmcbinfnaaGreatMA43
import Derived.JoinedOf
set_option maxHeartbeats 100000000
set_option maxRecDepth 1000000
namespace Go.Proofs.YtlibdcmcbinfnaaGreat
open _root_.Go.Proofs.Tryz List Nat
open Go.RowKit
variable{x z:Int}{T:FT}{Ff F:Nat->Prop}{l:List Nd}{a:Option Addr}{n cap g:Nat}{u w w':World}{xs:List Int}{D:FD}
section
variable {D:FD} {p:Wp} {l:List Nd}
theorem zsE(hD:DOk D)(h0:zct D l=0)(hb:D.begun=true){x:Int}(hx:(elF Nd.id (withS D.L l) x).isSome=true)(ht:x∉zah (zcu D l)):
  x∉D.dirty++l.map Nd.id/\(elF Nd.id D.L x).isSome=true/\x∉zah D/\stv (withS D.L l) x=stv D.L x:=by
 have Xf:zcu D l={ D with L:=withS D.L l,dirty:=D.dirty++l.map Nd.id }:=by unfold zcu;rw[if_pos h0]
 rw[Xf]at ht;have kB:((withS D.L l).map Nd.id).Nodup:=zcK l hD.nod;have kY:=zlM kB (zfw h0).2;have dz:∀y,y∉D.dirty++l.map Nd.id->elF Nd.id (withS D.L l) y=elF Nd.id D.L y:=λy hy=>
  zeX hD.nod (λm hm=>zcL (by rw[hm];exact λq=>hy (mem_append_right _ q)))
 refine zin (D:=D) (D':={ D with L:=withS D.L l,dirty:=D.dirty++l.map Nd.id }) hD kB kY rfl (λz hz=>mem_append_left _ hz) (λy hy _=>dz y hy) (λy hy hs hh=> ?_) hb hx ht;obtain⟨n,e⟩:=Option.isSome_iff_exists.1 hs;have e':elF Nd.id D.L y=some n:=(dz y hy).symm.trans e;have k1:=zbn e;have k2:=zbn e';show zap (withS D.L l) y=zap D.L y;have ZR:0<=zap (withS D.L l) y->zap (withS D.L l) y∉D.dirty++l.map Nd.id:=hh;rw[k1]at ZR;rw[k1,k2]
 by_cases p0:n.par<0
 ·rw[if_pos (.inl p0),if_pos (.inl p0)]
 ·by_cases p1:(elF Nd.id (withS D.L l) n.par).isNone=true
  ·have p2:(elF Nd.id D.L n.par).isNone=true:=by
    rw[zd9,zi0]at p1 ⊢;exact λq=>p1 (ziZ.2 (.inl q))
   rw[if_pos (.inr p1),if_pos (.inr p2)]
  ·rw[if_neg (λq=>q.elim p0 p1)]at ZR ⊢;have:=dz _ (ZR om);rw[this]at p1;rw[if_neg (λq=>q.elim p0 p1)]
def zdH(N:Int->Option BD)(m:Int->Option Nd)(K:List Int)(x:Int):Option BD:=if x∈K then some (((m x).getD zNd).pl,((m x).getD zNd).hid) else N x
theorem zpj{N:Int->Option BD}{m:Int->Option Nd}{K:List Int}{j:Nat}(h:K[j]? =some z):zdH N m (K.take (j+1))=upm (zdH N m (K.take j)) z (some (((m z).getD zNd).pl,((m z).getD zNd).hid)):=by
 funext y;unfold zdH upm;rw[take_add_one,h]
 by_cases c:y=z
 ·rw[if_pos c,if_pos (by rw[c];simp),c]
 ·rw[if_neg c];show _=if y∈K.take j then _ else N y
  by_cases d:y∈K.take j
  ·rw[if_pos d,if_pos (mem_append_left _ d)]
  ·rw[if_neg d,if_neg (λk=>(mem_append.1 k).elim d (λk=>c (by simpa using k)))]
theorem LIf.put(hD:DOk D)(h:LIf D p)(h0:zct D l=0){T:FT}{Ff:Nat->Prop}(hW:WF T)(hT:∀x,zak T x=zak (zez (withS D.L l)) x):
  LIf (zcu D l) (mkP { wT p T Ff with N:=zdH p.N (zas l) (zaw l) } (zaw l)):=by
 have Xf:zcu D l={ D with L:=withS D.L l,dirty:=D.dirty++l.map Nd.id }:=by unfold zcu;rw[if_pos h0]
 have dz:=zjt l hD.nod;have YE:∀x,x∈zaw l↔x∈l.map Nd.id:=λx=>mem_keys.trans zgk;have hno:∀x,x∉zaw l->elF Nd.id (withS D.L l) x=elF Nd.id D.L x:=λx c=>by
  rw[dz]
  cases q:zas l x with
  | none=>rfl
  | some n=>exact absurd (mem_keys.2 (by rw[q];rfl)) c
 have Yw:∀x,x∈zaw l->∃n,zas l x=some n/\elF Nd.id (withS D.L l) x=some n:=λx c=>by
  obtain⟨n,hn⟩:=Option.isSome_iff_exists.1 (mem_keys.1 c);exact⟨n,hn,by rw[dz,hn];rfl⟩
 have hL:(zcu D l).L=withS D.L l:=by rw[Xf]
 refine⟨hW,λx=>by rw[hL];exact hT x,λx=> ?_,λx=> ?_,λx hx=> ?_,λhb x hx ht=> ?_,?_⟩
 ·rw[hL];show zdH p.N (zas l) (zaw l) x=_;unfold zdH
  by_cases c:x∈zaw l
  ·obtain⟨n,h1,h2⟩:=Yw x c;rw[if_pos c,h1,h2];rfl
  ·rw[if_neg c,hno x c,h.nod]
 ·rw[hL];show (mkM p.M (zaw l) x).isSome=true↔_/\((zcu D l).begun=true->x∈(zcu D l).dirty);rw[Xf];show (mkM p.M (zaw l) x).isSome=true↔_/\(D.begun=true->x∈D.dirty++l.map Nd.id);unfold mkM
  by_cases c:x∈zaw l
  ·obtain⟨n,h1,h2⟩:=Yw x c;rw[if_pos c,h2];exact⟨λ_=>⟨rfl,λ_=>mem_append_right _ ((YE x).1 c)⟩,λ_=>rfl⟩
  ·rw[if_neg c,hno x c,h.mrk];exact⟨λq=>⟨q.1,λb=>mem_append_left _ (q.2 b)⟩,λq=>⟨q.1,λb=>(mem_append.1 (q.2 b)).elim id (λk=>absurd ((YE x).2 k) c)⟩⟩
 ·rw[hL]at hx;show mkS p.S (zaw l) x=none;unfold mkS
  by_cases c:x∈zaw l
  ·rw[if_pos c]
  ·rw[if_neg c];rw[hno x c]at hx;exact h.non x hx
 ·have dh:D.begun=true:=by rw[Xf]at hb;exact hb
  rw[hL]at hx;obtain⟨k1,k2,k3,k4⟩:=zsE hD h0 dh hx ht;have c:x∉zaw l:=λc=>k1 (mem_append_right _ ((YE x).1 c));show mkS p.S (zaw l) x=stv (zcu D l).L x;unfold mkS;rw[if_neg c,hL,k4];exact h.sts dh x k2 k3
 ·show p.st=(zcu D l).steps;rw[Xf];exact h.st
theorem LIf.putNo(h:LIf D p){T:FT}{Ff:Nat->Prop}(hW:WF T)(hT:∀x,zak T x=zak p.T x):LIf D (wT p T Ff):=
 ⟨hW,λx=>(hT x).trans (h.par x),h.nod,h.mrk,h.non,h.sts,h.st⟩
theorem zpk(hD:DOk D){x:Int}(hb:D.begun=true){z:Int}(hz:(elF Nd.id (D.L.filter (λm=>m.id != x)) z).isSome=true)
  (ht:z∉zah { D with L:=D.L.filter (λm=>m.id != x),dirty:=D.dirty++(D.L.filter (λn=>zap D.L n.id==x)).map Nd.id }):
  z∉D.dirty++(D.L.filter (λn=>zap D.L n.id==x)).map Nd.id/\(elF Nd.id D.L z).isSome=true/\z∉zah D/\stv (D.L.filter (λm=>m.id != x)) z=stv D.L z:=by
 have kB:((D.L.filter (λm=>m.id != x)).map Nd.id).Nodup:=hD.nod.sublist (List.Sublist.map _ filter_sublist);have kY:=zvt hD.nod hD.wf x;have Cm:∀n∈D.L.filter (λm=>m.id != x),n∈D.L:=λn hn=>(mem_filter.1 hn).1;refine zin (D:=D) (D':={ D with L:=D.L.filter (λm=>m.id != x),dirty:=D.dirty++(D.L.filter (λn=>zap D.L n.id==x)).map Nd.id }) hD kB kY rfl (λz hz=>mem_append_left _ hz) (λy _ hs=> ?_) (λy hy hs _=> ?_) hb hz ht
 ·obtain⟨n,hn,e⟩:=zaN.1 hs;have Hd:y≠x:=by
   have:=(mem_filter.1 hn).2;rw[<-e];simpa using this
  exact zeX hD.nod (λm hm=>by
   rw[mem_filter]
   exact⟨And.left,λq=>⟨q,by simp[hm,Hd]⟩⟩)
 ·obtain⟨n,hn,e⟩:=zaN.1 hs;have Hd:y≠x:=by
   have:=(mem_filter.1 hn).2;rw[<-e];simpa using this
  rcases zeZ hD.nod Hd with q | q
  ·exact q
  ·exact absurd (mem_append_right _ (mem_map.2 ⟨n,mem_filter.2 ⟨Cm n hn,by simp[e,q.2]⟩,e⟩)) hy
def zzu(p:Wp)(x:Int)(Ff:Nat->Prop):Wp:={ p with T:=zaI p.T x,Ff:=Ff,N:=upm p.N x none,S:=upm (mkS p.S (chF p.T x)) x none,M:=upm (mkM p.M (chF p.T x)) x none }
theorem LIf.hangers(hD:DOk D)(h:LIf D p){x:Int}(hx:(elF Nd.id D.L x).isSome=true)(z:Int):z∈chF p.T x↔z∈(D.L.filter (λn=>zap D.L n.id==x)).map Nd.id:=by
 have h0:0<=x:=by
  obtain⟨n,hn,e⟩:=zaN.1 hx;rw[<-e];exact hD.nn n hn
 rw[h.chd hD hx,zaA hD.wf.1,zau hD.nod,mem_map];constructor
 ·intro q
  by_cases c:0<=zap D.L z
  ·rw[if_pos c]at q;injection q with q;obtain⟨n,hn,e⟩:=ziN c;exact⟨n,mem_filter.2 ⟨hn,by rw[e,q];simp⟩,e⟩
  ·rw[if_neg c]at q;cases q
 ·rintro⟨n,hn,rfl⟩;have:=(mem_filter.1 hn).2;have e:zap D.L n.id=x:=by simpa using this
  rw[e,if_pos h0]
theorem LIf.drop(hD:DOk D)(h:LIf D p){x:Int}(hx:zcx D x=true)(Ff:Nat->Prop):LIf (za2 D x) (zzu p x Ff):=by
 have Z4:za2 D x={ D with L:=D.L.filter (λm=>m.id != x),dirty:=D.dirty++(D.L.filter (λn=>zap D.L n.id==x)).map Nd.id }:=by unfold za2;rw[if_pos hx]
 have hx':(elF Nd.id D.L x).isSome=true:=hx;have tK:=h.hangers hD hx';have kB:((D.L.filter (λm=>m.id != x)).map Nd.id).Nodup:=hD.nod.sublist (List.Sublist.map _ filter_sublist)
 have dz:∀z,z≠x->elF Nd.id (D.L.filter (λm=>m.id != x)) z=elF Nd.id D.L z:=λz hz=>zeX hD.nod (λm hm=>by
  rw[mem_filter]
  exact⟨And.left,λq=>⟨q,by simp[hm,hz]⟩⟩)
 have YV:elF Nd.id (D.L.filter (λm=>m.id != x)) x=none:=zcZ.2 (λm hm=>by
  have:=(mem_filter.1 hm).2
  simpa using this)
 rw[Z4];refine⟨h.wf.free x,λz=> ?_,λz=> ?_,λz=> ?_,λz hz=> ?_,λhb z hz ht=> ?_,h.st⟩
 ·show zak (zaI p.T x) z=zak (zez (D.L.filter (λm=>m.id != x))) z;rw[za7]
  by_cases c:z=x
  ·rw[if_pos c,c,zcD YV]
  ·rw[if_neg c,h.par]
   cases q:elF Nd.id D.L z with
   | none=>rw[zcD q,zcD ((dz z c).trans q)]
   | some n=>rw[zdA hD.nod q,zdA kB ((dz z c).trans q)]
 ·show upm p.N x none z=(elF Nd.id (D.L.filter (λm=>m.id != x)) z).map _;unfold upm
  by_cases c:z=x
  ·rw[if_pos c,c,YV];rfl
  ·rw[if_neg c,dz z c,h.nod]
 ·show (upm (mkM p.M (chF p.T x)) x none z).isSome=true↔(elF Nd.id (D.L.filter (λm=>m.id != x)) z).isSome=true/\(D.begun=true->z∈D.dirty++(D.L.filter (λn=>zap D.L n.id==x)).map Nd.id);unfold upm
  by_cases c:z=x
  ·rw[if_pos c,c,YV];simp
  ·rw[if_neg c,dz z c];unfold mkM
   by_cases d:z∈chF p.T x
   ·rw[if_pos d];have d2:=(tK z).1 d;obtain⟨n,hn,e⟩:=mem_map.1 d2;exact⟨λ_=>⟨zaN.2 ⟨n,(mem_filter.1 hn).1,e⟩,λ_=>mem_append_right _ d2⟩,λ_=>rfl⟩
   ·rw[if_neg d,h.mrk];exact⟨λq=>⟨q.1,λb=>mem_append_left _ (q.2 b)⟩,λq=>⟨q.1,λb=>(mem_append.1 (q.2 b)).elim id (λk=>absurd ((tK z).2 k) d)⟩⟩
 ·have yH:elF Nd.id (D.L.filter (λm=>m.id != x)) z=none:=hz;show upm (mkS p.S (chF p.T x)) x none z=none;unfold upm
  by_cases c:z=x
  ·rw[if_pos c]
  ·rw[if_neg c];unfold mkS
   by_cases d:z∈chF p.T x
   ·rw[if_pos d]
   ·rw[if_neg d];exact h.non z ((dz z c).symm.trans yH)
 ·obtain⟨k1,k2,k3,k4⟩:=zpk hD hb hz ht;have eY:z≠x:=λc=>by
   have yH:(elF Nd.id (D.L.filter (λm=>m.id != x)) z).isSome=true:=hz;rw[c,YV]at yH
   cases yH
  show upm (mkS p.S (chF p.T x)) x none z=stv (D.L.filter (λm=>m.id != x)) z;unfold upm;rw[if_neg eY];unfold mkS;rw[if_neg (λd=>k1 (mem_append_right _ ((tK z).1 d))),k4];exact h.sts hb z k2 k3
def zvU(p:Wp)(S:Int->Option RD)(M:Int->Option Unit)(s:Nat):Wp:={ p with S:=S,M:=M,st:=s }
theorem LIf.runOk(hD:DOk D)(h:LIf D p)(h0:zeC D=0):LIf (zc4 D) (zvU p (zcR D.L (zah D) p.S (zah D).length) (λ_=>none) (p.st+(zah D).length)):=by
 have hb:(zc4 D).begun=true:=decide_eq_true h0;refine⟨h.wf,h.par,h.nod,λx=> ?_,λx hx=> ?_,λ_ x hx ht=> ?_,?_⟩
 ·show (none:Option Unit).isSome=true↔_/\((zc4 D).begun=true->x∈([]:List Int));rw[hb];simp
 ·show zcR D.L (zah D) p.S (zah D).length x=none;have hx':elF Nd.id D.L x=none:=hx;unfold zcR;rw[if_neg (λc=>by have:=zbo hD.wf c;rw[hx']at this;cases this)];exact h.non x hx'
 ·show zcR D.L (zah D) p.S (zah D).length x=stv D.L x;unfold zcR;rw[take_length]
  by_cases c:x∈zah D
  ·rw[if_pos c,if_pos c]
  ·rw[if_neg c]
   by_cases Hu:D.begun=true
   ·exact h.sts Hu x hx c
   ·refine absurd ((zbk hD.wf).2 ⟨x,?_,.inl rfl⟩) c;unfold zbU;rw[if_neg Hu];exact zbg.2 hx
 ·show p.st+(zah D).length=D.steps+(zah D).length;rw[h.st]
theorem LIf.runNo(hD:DOk D)(h:LIf D p)(h0:zeC D≠0)(n:Nat):LIf (zc4 D) (zvU p (mkS (zcR D.L (zah D) p.S n) (zbJ D.L)) (mkM p.M (zbJ D.L)) (p.st+(zah D).length)):=by
 have hb:(zc4 D).begun=false:=decide_eq_false h0;refine⟨h.wf,h.par,h.nod,λx=> ?_,λx hx=> ?_,λb=>(by rw[hb]at b;cases b),?_⟩
 ·show (mkM p.M (zbJ D.L) x).isSome=true↔(elF Nd.id D.L x).isSome=true/\((zc4 D).begun=true->_);rw[hb];unfold mkM
  by_cases c:x∈zbJ D.L
  ·rw[if_pos c];exact⟨λ_=>⟨zbg.1 c,λb=>(by cases b)⟩,λ_=>rfl⟩
  ·rw[if_neg c,h.mrk];exact⟨λq=>absurd (zbg.2 q.1) c,λq=>absurd (zbg.2 q.1) c⟩
 ·have hx':elF Nd.id D.L x=none:=hx;show mkS (zcR D.L (zah D) p.S n) (zbJ D.L) x=none;unfold mkS
  by_cases c:x∈zbJ D.L
  ·rw[if_pos c]
  ·rw[if_neg c];unfold zcR;rw[if_neg (λc=>by have:=zbo hD.wf c;rw[hx']at this;cases this)];exact h.non x hx'
 ·show p.st+(zah D).length=D.steps+(zah D).length;rw[h.st]
theorem LIf.state(hD:DOk D)(h:LIf D p)(x:Int):(stL p x).2=(zfQ D x).isSome/\cFs (stL p x).1.1=cFs ((zfQ D x).getD zSt):=by
 unfold stL zfQ;rw[h.dirty hD]
 by_cases hn:(elF Nd.id D.L x).isSome=true
 ·by_cases ht:x∈zah D
  ·rw[if_pos (decide_eq_true ht),if_neg (λq=>q.2.1 ht)];exact⟨rfl,rfl⟩
  ·have hb:D.begun=true:=by
    by_cases hb:D.begun=true
    ·exact hb
    ·refine absurd ((zbk hD.wf).2 ⟨x,?_,.inl rfl⟩) ht;unfold zbU;rw[if_neg hb];exact zbg.2 hn
   rw[if_neg (by simpa using ht),if_pos ⟨hb,ht,hn⟩];obtain⟨s,h1,h2⟩:=hD.st hb x hn ht;have h3:=h.sts hb x hn ht;have h4:stv D.L x=some (s,(abv (zaj D.L) x).length+1):=by unfold stv;rw[h1];rfl
   rw[h3,h4,h2];exact⟨rfl,rfl⟩
 ·have ht:x∉zah D:=λc=>hn (zbo hD.wf c);have hx:elF Nd.id D.L x=none:=by
   cases q:elF Nd.id D.L x with
   | none=>rfl
   | some n=>rw[q]at hn;exact absurd rfl hn
  rw[if_neg (by simpa using ht),if_neg (λq=>hn q.2.2),h.non x hx];exact⟨rfl,rfl⟩
theorem LIf.zero{p:Wp}(hT:p.T=[])(hN:p.N=λ_=>none)(hS:p.S=λ_=>none)(hM:p.M=λ_=>none)(hs:p.st=0):LIf FD0 p:=by
 refine⟨by rw[hT];exact WF.nil,λx=>(by rw[hT];rfl),λx=>(by rw[hN];rfl),λx=> ?_,λx _=>(by rw[hS]),λb=>(by cases b),hs⟩;rw[hM];exact⟨λq=>(by cases q),λq=>(by cases q.1)⟩
end
def wN(p:Wp)(N':Int->Option BD):Wp:={ p with N:=N' }
theorem zsF(a b:Int)(M:Nat->Int)(h:Bool)(W:World):(Instr.field 205 (.agg #[.int .i64 a,.int .i64 b,.int .i64 (M 0),.int .i64 (M 1),.int .i64 (M 2),.int .i64 (M 3),.int .i64 (M 4),.int .i64 (M 5),.int .i64 (M 6),.int .i64 (M 7),.int .i64 (M 8),.int .i64 (M 9),.int .i64 (M 10),.int .i64 (M 11),.bool h]) 2).run prog W= .ok (.agg (lM M).toArray) W:=oM
theorem zx4(a b:Int)(M:Nat->Int)(h:Bool)(W:World):(Instr.field 205 (.agg #[.int .i64 a,.int .i64 b,.int .i64 (M 0),.int .i64 (M 1),.int .i64 (M 2),.int .i64 (M 3),.int .i64 (M 4),.int .i64 (M 5),.int .i64 (M 6),.int .i64 (M 7),.int .i64 (M 8),.int .i64 (M 9),.int .i64 (M 10),.int .i64 (M 11),.bool h]) 3).run prog W= .ok (.bool h) W:=oM
theorem zu2(M:Nat->Int)(b:Bool)(W:World):(Instr.build 215 #[(0,.agg (lM M).toArray),(1,.bool b)]).run prog W= .ok (.agg (cBd (M,b)).toArray) W:=oM
theorem zsG(l:List Nd):(zaw l).length<=l.length:=by
 unfold zaw;have:=znl (l.map Nd.id)
 rwa [length_map]at this
theorem zdB(hl:∀n∈l,Rg n.id/\Rg n.par):Rgs (zaw l):=λx hx=>by
 obtain⟨n,hn,e⟩:=mem_map.1 (zb0.1 hx);rw[<-e];exact (hl n hn).1
theorem zzv(hl:∀n∈l,Rg n.id/\Rg n.par)(x:Int):Rg (wnt (zas l) x):=by
 unfold wnt
 cases q:zas l x with
 | none=>exact⟨by show _<=(if (0:Int)< -1 then (-1:Int) else 0);simp,by show (if (0:Int)< -1 then (-1:Int) else 0)<=_;simp⟩
 | some n=>
  have:=(hl n (zsB q).2).2;show Rg (if n.par< -1 then -1 else n.par)
  unfold Rg at this ⊢
  split <;> omega
section
variable {w:World} {p:Wp} {D:FD}
theorem zsH(hD:DOk D)(hL:LIf D p)(h:LW w p){a:Option Addr}{n cap:Nat}{l:List Nd}(row:zyI w a n l)(hl:∀m∈l,Rg m.id/\Rg m.par)(Cb:D.L.length<=300)(Q8:n<=300):
  Calls prog 70 #[.pointer (some ⟨p.g,0,none⟩),.slice a n cap] w λe w'=>e= .returned (.int .i64 (zct D l))/\∃q,q.g=p.g/\ChL w w' p q/\LIf (zcu D l) q:=by
 have Hy:=row.2.1;have Xh:= @run_makeMap prog;have qf:=row.1;have Kw:=kA row.1;have hJ:Hid (∀u,Bw w u->zyI u a n l):=kA (λu q=>row.keep q);have DD:Hid (∀u,Bw w u->Calls prog 122 #[.slice a n cap] u λe w'=>e= .returned (.bool (!l.any zhF))/\Bw u w'):=kA (λu q=>zmx a n cap l u (row.keep q))
 have dI:Hid (∀u,Bw w u->l.any zhF=true->zct D l=1/\∃q,q.g=p.g/\ChL w u p q/\LIf (zcu D l) q):=kA (λu q hb=>by
  have h1:zct D l=1:=by unfold zct;rw[if_pos hb]
  refine⟨h1,p,rfl,ChL.still h q,?_⟩;unfold zcu;rw[if_neg (by rw[h1];omega)]
  exact hL)
 have kQ:Hid (∀u gl j nd,Bw w u->MF nK u gl (zas (l.take j))->w.heap.size<=gl->l[j]? =some nd->∃w2,(Instr.mapUpdate 204 (.map (some gl)) (.int .i64 nd.id) (.agg (cNd nd).toArray)).run prog u= .ok () w2/\MF nK w2 gl (zas (l.take (j+1)))/\Bw w w2):=kA (λu gl j nd hb hm hg hj=>by
  obtain⟨w2,r2,m2,g2⟩:=hm.put (hl nd (mem_of_getElem? hj)).1 nd (l.map Nd.id) (λy hy=>by
   unfold upm at hy
   by_cases c:y=nd.id
   ·rw[c];exact mem_map.2 ⟨nd,mem_of_getElem? hj,rfl⟩
   ·rw[if_neg c,zgk]at hy;obtain⟨m,hm,e⟩:=mem_map.1 hy
    exact mem_map.2 ⟨m,mem_of_mem_take hm,e⟩) (by rw[length_map];omega)
  refine⟨w2,r2,by rw[zsA hj];exact m2,⟨g2.os.trans hb.os,g2.tape.trans hb.tape,g2.output.trans hb.output,Nat.le_trans hb.size g2.size,λq hq=>(g2.block q (Nat.lt_of_lt_of_le hq hb.size) (λe=>by injection e with e;omega)).trans (hb.block q hq)⟩⟩)
 have za:Hid (∀u gl,MF nK u gl (zas l)->Calls prog 123 #[.func (.func 190) #[] #[.pointer (some ⟨u.heap.size,0,none⟩)]] (u.alloc (.cells #[.map (some gl)] 204)) λe w'=>∃v,e= .returned v/\OwnD w' u.heap.size v (zaw l).length (zaw l)/\Bw u w'):=kA (λu gl hm=>zuT hm (zaw l) (zfu _) (λz=>⟨λq=>⟨zdB hl z q,mem_keys.1 q⟩,λq=>mem_keys.2 q.2⟩));have Y1:Hid (∀u gl ka nk kc,Bw w u->MF nK u gl (zas l)->Row u ka nk (zaw l)->nk<=1000->Calls prog 125 #[.pointer (some ⟨p.g,0,none⟩),.slice ka nk kc,.map (some gl)] u λe w'=>∃v1 v2,e= .returned (.tuple #[v1,v2])/\zk4 w' u.heap.size v1 (toL p.T (zas l) (zaw l))/\zk4 w' u.heap.size v2 (zbA p.T (zas l) (zaw l))/\Bw u w'):=kA (λu gl ka nk kc q hm hr hk=>zmz (h.keep q) hm hr hk (zdB hl));have qO:=hL.len;have YE:(zaw l).length<=300:=by have:=zsG l;omega
 have CK:Hid (∀u base v1 v2,Bw w u->w.heap.size<=base->zk4 u base v1 (toL p.T (zas l) (zaw l))->zk4 u base v2 (zbA p.T (zas l) (zaw l))->l.any zhF=false->Calls prog 126 #[.pointer (some ⟨p.g,0,none⟩),v1,v2] u λe w'=>e= .returned (.int .i64 (zct D l))/\∃Ff,ChL u w' p (wT p (zk3 p.T (toL p.T (zas l) (zaw l)) (zbA p.T (zas l) (zaw l))) Ff)):=kA (λu base v1 v2 q kj o1 o2 hb=>by
  obtain⟨a1,c1,e1,_,_,r1⟩:=o1.row zjs;obtain⟨a2,c2,e2,_,_,r2⟩:=o2.row zjs;have Xy:=hL.moves hD hb;have tL:∀ad,a1=some ad->(toL p.T (zas l) (zaw l)).length=0∨(base<=ad.block/\ad.block<u.heap.size):=λad e=>by
   by_cases z:(toL p.T (zas l) (zaw l)).length=0
   ·exact .inl z
   ·exact .inr (o1.lt ad.block (by rw[e1,e];rfl))
  have D7:∀ad,a2=some ad->(zbA p.T (zas l) (zaw l)).length=0∨(base<=ad.block/\ad.block<u.heap.size):=λad e=>by
   by_cases z:(zbA p.T (zas l) (zaw l)).length=0
   ·exact .inl z
   ·exact .inr (o2.lt ad.block (by rw[e2,e];rfl))
  have cJ:(toL p.T (zas l) (zaw l)).length<=(zaw l).length:=length_filterMap_le _ _;have Qq:(zbA p.T (zas l) (zaw l)).length<=(zaw l).length:=length_filterMap_le _ _;rw[e1,e2]
  have hc:=zpi (cap:=c1) (cap':=c2) (h.keep q) hL.wf r1 (by
   by_cases z:(toL p.T (zas l) (zaw l)).length=0
   ·exact .inl z
   ·refine .inr (λad e hf=> ?_);have k1:=h.inb _ hf;rcases tL ad e with k | k
    ·exact z k
    ·omega) (λlk Kz=>by
   obtain⟨k1,_,k3⟩:=zsC.1.1 Kz;exact⟨zdB hl _ k1,by rw[k3];exact zzv hl _⟩) r2 (by
   by_cases z:(zbA p.T (zas l) (zaw l)).length=0
   ·exact .inl z
   ·refine .inr (λad e hf=> ?_);have k1:=h.inb _ hf;rcases D7 ad e with k | k
    ·exact z k
    ·omega) (λlk Kz=>by
   obtain⟨k1,_,k3⟩:=zsC.2.1 Kz
   exact⟨zdB hl _ k1,by rw[k3];exact hL.parMR hD _⟩) (λad e=>(D7 ad e).imp_right And.right) om
  refine hc.mono ?_;rintro e w' ⟨rfl,Hi⟩
  exact⟨by rw[Xy.1],Hi⟩)
 have Hr:Hid (∀u5 u Ff,Bw w u5->l.any zhF=false->zct D l≠0->ChL u5 u p (wT p (zk3 p.T (toL p.T (zas l) (zaw l)) (zbA p.T (zas l) (zaw l))) Ff)->∃q,q.g=p.g/\ChL w u p q/\LIf (zcu D l) q):=kA (λu5 u Ff q hb h0 Hi=>by
  have Xy:=hL.moves hD hb;refine⟨wT p (zk3 p.T (toL p.T (zas l) (zaw l)) (zbA p.T (zas l) (zaw l))) Ff,rfl,(ChL.still h q).join Hi,?_⟩;unfold zcu;rw[if_neg h0]
  exact hL.putNo Xy.2.1 (Xy.2.2.2 h0))
 have xu:Hid (∀u5 u T Ff j z,ChL u5 u p (wN (wT p T Ff) (zdH p.N (zas l) ((zaw l).take j)))->(zaw l)[j]? =some z->∃w2,(Instr.mapUpdate 197 (.map (some p.gn)) (.int .i64 z) (.agg (cBd (((zas l z).getD zNd).pl,((zas l z).getD zNd).hid)).toArray)).run prog u= .ok () w2/\ChL u5 w2 p (wN (wT p T Ff) (zdH p.N (zas l) ((zaw l).take (j+1))))):=kA (λu5 u T Ff j z k hz=>by
  obtain⟨w2,r2,m2,g2⟩:=k.1.nod.put (zdB hl z (mem_of_getElem? hz)) (((zas l z).getD zNd).pl,((zas l z).getD zNd).hid) (D.L.map Nd.id++zaw l) (λy hy=>by
   unfold upm at hy
   by_cases c:y=z
   ·rw[c];exact mem_append_right _ (mem_of_getElem? hz)
   ·rw[if_neg c]at hy;have dO:(zdH p.N (zas l) ((zaw l).take j) y).isSome=true:=hy;unfold zdH at dO
    by_cases d:y∈(zaw l).take j
    ·exact mem_append_right _ (mem_of_mem_take d)
    ·rw[if_neg d,hL.nodS]at dO
     exact mem_append_left _ (zi0.1 dO)) (by rw[length_append,length_map];omega)
  refine⟨w2,r2,?_⟩;rw[zpj hz]
  exact k.join (k.1.setN m2 g2))
 have zc:Hid (∀u5 u Ff ka nk kc,Bw w u5->l.any zhF=false->zct D l=0->ChL u5 u p (wN (wT p (zk3 p.T (toL p.T (zas l) (zaw l)) (zbA p.T (zas l) (zaw l))) Ff) (zdH p.N (zas l) (zaw l)))->Row u5 ka nk (zaw l)->(∀ad,ka=some ad->nk=0∨w.heap.size<=ad.block)->Calls prog 120 #[.pointer (some ⟨p.g,0,none⟩),.slice ka nk kc] u λe w'=>e= .returned (.tuple #[])/\∃q,q.g=p.g/\ChL w w' p q/\LIf (zcu D l) q):=kA (λu5 u Ff ka nk kc q hb h0 k hr eZ=>by
  have Xy:=hL.moves hD hb;have sj:nk=(zaw l).length:=hr.1.symm;have Kj:Aw (zba p) ka nk:=by
   by_cases z:nk=0
   ·exact .inl z
   ·refine .inr (λad e hf=> ?_);have:=h.inb _ hf;rcases eZ ad e with c | c
    ·exact z c
    ·omega
  have tM:∀ad,ka=some ad->nk=0∨ad.block<u5.heap.size:=λad e=>by
   rcases hr.2.2 with c | ⟨b,off,e2,hc⟩
   ·exact .inl c
   ·by_cases z:nk=0
    ·exact .inl z
    ·rw[e]at e2;injection e2 with e2;rw[e2];exact .inr (World.block_lt_of_cell? _ _ (hc 0 om))
  have dy:=zbI hr Kj k.2.1
  refine (zfG (cap:=kc) k.1 om dy (by
   by_cases z:nk=0
   ·exact .inl z
   ·refine .inr (λad e hf=> ?_);rcases k.2.2 _ hf with c | c
    ·rcases Kj with d | d
     ·exact z d
     ·exact d ad e c
    ·rcases tM ad e with d | d
     ·exact z d
     ·omega) (zdB hl) (D.L.map Nd.id) (λy hy=>by
   have dO:(p.M y).isSome=true:=hy;rw[hL.mrk]at dO
   exact zi0.1 dO.1) (by rw[length_map];omega)).mono ?_
  rintro e w' ⟨rfl,Hi⟩;refine⟨rfl,mkP (wN (wT p (zk3 p.T (toL p.T (zas l) (zaw l)) (zbA p.T (zas l) (zaw l))) Ff) (zdH p.N (zas l) (zaw l))) (zaw l),rfl,((ChL.still h q).join k).join Hi,?_⟩
  exact hL.put hD h0 Xy.2.1 (Xy.2.2.1 h0))
 have Cj:Hid (∀b,zba p b->b<w.heap.size):=kA h.inb
 have sr:Hid (∀T Ff,wN (wT p T Ff) (zdH p.N (zas l) ((zaw l).take 0))=wT p T Ff):=kA (λT Ff=>by
  unfold wN
  rw[take_zero,show zdH p.N (zas l) []=(wT p T Ff).N from by funext x;unfold zdH;rw[if_neg (by simp)];rfl])
 have Cz:Hid (∀u u5 T Ff N',ChL u5 u p (wN (wT p T Ff) N')->u.cell? ⟨p.g,1,none⟩=some (.map (some p.gn))/\p.g<u.heap.size):=kA (λu u5 T Ff N' k=>⟨k.1.cells.2.1,k.1.cells.2.2.2.2.2⟩);obtain⟨K,hK⟩:∃K,K=zaw l:=⟨_,rfl⟩;obtain⟨m,hm⟩:∃m,m=zas l:=⟨_,rfl⟩;obtain⟨E,hE⟩:∃E,E=zct D l:=⟨_,rfl⟩;obtain⟨bad,yB⟩:∃bad,bad=l.any zhF:=⟨_,rfl⟩;rw[<-hK]at za Y1 CK Hr xu zc sr YE;rw[<-hm]at za Y1 CK Hr xu zc sr;rw[<-hE]at dI CK Hr zc ⊢;rw[<-yB]at DD dI CK Hr zc;have QG:Hid (Rgs K):=kA (by rw[hK];exact zdB hl);have qI:=kA hm;obtain⟨MT,Nl⟩:∃MT,MT=zk3 p.T (toL p.T m K) (zbA p.T m K):=⟨_,rfl⟩;rw[<-Nl]at CK Hr zc;obtain⟨g,hge⟩:∃g,g=p.g:=⟨_,rfl⟩;obtain⟨gn,Hd⟩:∃gn,gn=p.gn:=⟨_,rfl⟩;rw[<-hge]at Y1 CK zc Cz dI Hr ⊢;rw[<-Hd]at xu Cz;clear h row hL hD Cb hl qO hK hm hE yB Nl hge Hd qf;go_enter func70,ntmps70;go_wp2_with fail;refine (DD w (Below.refl _ _)).mono ?_;rintro e w1 ⟨rfl,b1⟩;have Hg:=kA b1;clear b1 DD
 cases bad with
 | true=>
  obtain⟨h1,h2⟩:=dI.out w1 Hg rfl;have Kk:=kA h1;have HQ:=kA h2;clear dI h1 h2;go_wp2;go_ret;exact⟨by rw[Kk.out] <;> rfl,HQ⟩
 | false=>
  have Hl:Bw w1 (w1.alloc (.map #[] 0)):=zaa _ _;have Cn:Hid (MF nK (w1.alloc (.map #[] 0)) w1.heap.size (zas (l.take 0))/\Bw w (w1.alloc (.map #[] 0))/\w.heap.size<=w1.heap.size/\w1.heap.size<(w1.alloc (.map #[] 0)).heap.size):=kA ⟨by rw[take_zero];exact MF.new nK w1,zad Hg Hl,Hg.size,by simp⟩;clear dI Hl Hg;go_upto_region 4 with fail;refine fin (λW=>MF nK W w1.heap.size (zas (l.take 0))/\Bw w W/\w.heap.size<=w1.heap.size/\w1.heap.size<W.heap.size) Cn ?_;obtain⟨gl,DI⟩:∃gl,gl=w1.heap.size:=⟨_,rfl⟩;rw[<-DI];rintro W ⟨qZ,Hu,e8,dQ⟩;have HM:=kA qZ;have HB:=kA Hu;clear Cn DI qZ Hu dQ;go_wp2
  go_loopw [7,24] (λ_ i wr=>∃j:Nat,j<=n/\i= .int .i64 j/\MF nK wr gl (zas (l.take j))/\Bw w wr) (λ_ i _=>n - (ivl i).toNat)
  case atStart=>exact⟨0,om,rfl,HM.out,HB⟩
  case round=>
   clear HM HB;obtain⟨j,hj,rfl,xw,hb⟩:=hrel;have HM:=kA xw;have HB:=kA hb;have Kf:=hJ.out wr hb;clear xw hb
   by_cases hlt:j<n
   ·obtain⟨b,off,nd,rfl,Ho,hx,hr⟩:=Kf.at_ hlt;have cC:=kA hr;have Yf:=kA (zvS nd);have Hl:Bw wr (wr.alloc (.cells (cNd zNd).toArray 205)):=zaa _ _;have kj:Bw wr ((wr.alloc (.cells (cNd zNd).toArray 205)).setCells wr.heap.size 0 (cNd nd)):=zab (cNd nd) Hl (Nat.le_refl _);have kt:Hid ((wr.alloc (.cells (cNd zNd).toArray 205)).there wr.heap.size 0 (cNd nd).toArray.size):=kA (zae (Blk.new wr _ _) (by rw[size_toArray];exact Nat.le_refl 15));have HK:Hid (Blk ((wr.alloc (.cells (cNd zNd).toArray 205)).setCells wr.heap.size 0 (cNd nd)) wr.heap.size 205 (cNd nd).toArray/\Bw wr ((wr.alloc (.cells (cNd zNd).toArray 205)).setCells wr.heap.size 0 (cNd nd))):=kA ⟨zal (Blk.new wr _ _) rfl,kj⟩;have QO:Hid (∀W gg,Blk W gg 205 (cNd nd).toArray->W.cell? ⟨gg,0,none⟩=some (.int .i64 nd.id)):=kA (λW gg k=>k.cell 0);have xY:=kA (λu=>kQ.out u gl j nd);obtain⟨XM,zX⟩:∃XM,XM=cNd nd:=⟨_,rfl⟩;obtain⟨y,hy⟩:∃y,y=nd.id:=⟨_,rfl⟩;rw[<-zX]at cC Yf kt HK QO xY;rw[<-hy]at QO xY;have HX:=kA hx;have j0:(0:Int)<=(j:Int):=om;have j1:(j:Int)<(n:Int):=om;clear Kf hr hx zX hy Hl kj;go_upto_region 7 with (first | refine wpList_load_mid rfl 205 (.tmp 26) rfl b (off+j*15) rfl XM _ cC underlying205 rfl Yf.size ?_ | refine wpList_store_mid rfl 205 (.tmp 7) (.tmp 27) rfl wr.heap.size 0 XM.toArray rfl rfl kt Yf.sizea Yf.onea ?_)
    refine fin (λW=>Blk W wr.heap.size 205 XM.toArray/\Bw wr W) HK ?_;clear HK kt cC Ho;obtain⟨g7,xl⟩:∃g7,g7=wr.heap.size:=⟨_,rfl⟩;rw[<-xl];rintro W2 ⟨k7,Xd⟩;have c7:=QO.out W2 g7 k7;have Xa:Hid (W2.rangeAt g7 0 XM):=kA (zac k7);have z7:=k7.lt
    try rw[xl]at Xd
    obtain⟨w3,r3,m3,b3⟩:=xY.out W2 (zad HB Xd) (HM.keep Xd) e8 HX;have Ea:=kA m3;have dq:=kA b3;clear xY Xd k7 m3 b3 xl HM HB;go_wp2_with (refine wpList_load_mid rfl 205 (.tmp 7) rfl g7 0 rfl XM _ Xa underlying205 rfl Yf.size ?_);go_roundw
    case rel=>exact⟨j+1,om,by go_num,Ea.out,dq⟩
    case measure=>simp[ivl] <;> omega
   ·obtain rfl:j=n:=om;have e0:l.take j=l:=take_of_length_le (by rw[Kw.out];exact Nat.le_refl _);rw[e0,<-qI.out]at HM;have j1:¬(j:Int)<(j:Int):=om;have vM:=kA (zzn (some gl) wr);have Dl:=kA (za wr gl HM);clear e0 Kf hlt kQ za hJ Kw;go_wp2_with fail;refine vM.mono ?_;rintro e w2 ⟨rfl,rfl⟩;go_wp2_with fail;refine Dl.mono ?_;rintro e w3 ⟨v,rfl,Hc,b3⟩;obtain⟨ka,kc,Nm,vN⟩:=Hc.row;have qQ:∀ad,ka=some ad->K.length=0∨w.heap.size<=ad.block:=λad e=>by
     by_cases z:K.length=0
     ·exact .inl z
     ·have k1:=(World.ownsRow.lt Hc ad.block (by rw[Nm,e];rfl)).1;have k2:=HB.size;exact .inr om
    subst Nm;obtain⟨nk,sj⟩:∃nk,nk=K.length:=⟨_,rfl⟩;rw[<-sj]at vN qQ YE ⊢;have Eb:=kA sj;have vO:=kA qQ;replace HB:=kA (zad HB b3);replace HM:=kA (HM.keep b3);have ze:=kA vN;have Nn:=vN.2.1;have Np:=kA (Y1 w3 gl ka nk kc HB HM vN om);clear Hc vN qQ b3 vM Dl Y1 sj;go_wp2_with fail;refine Np.mono ?_;rintro e w4 ⟨v1,v2,rfl,o1,o2,b4⟩;have Bp:w.heap.size<=w3.heap.size:=HB.size;replace HB:=kA (zad HB b4);replace HM:=kA (HM.keep b4);replace ze:=kA (zar ze b4);have vP:=kA (CK w4 w3.heap.size v1 v2 HB Bp o1 o2 (by trivial));clear o1 o2 b4 Np CK;go_wp2_with fail;refine vP.mono ?_;rintro e w5 ⟨rfl,Ff,Hi⟩;have H9:=kA Hi;clear Hi vP
    by_cases Dy:E=0
    ·have Nq:=λu Ec EL Ed=>zc.out w4 u Ff Ec EL Ed HB (by trivial) Dy;have tN:=kA (λu=>Nq u ka nk kc)
     have DL:Hid (∀u N',ChL w4 u p (wN (wT p MT Ff) N')->MF nK u gl m/\Row u ka nk K):=kA (λu N' k=>by
      refine⟨HM.same (k.2.1.2.2.2.2 gl HM.lt (λc=>by have:=Cj.out _ c;omega)),zbI ze ?_ k.2.1⟩
      by_cases z:nk=0
      ·exact .inl z
      ·refine .inr (λad e hf=> ?_);have k1:=Cj.out _ hf;rcases vO.out ad e with c | c
       ·exact z c
       ·omega)
     have QO:Hid (ChL w4 w5 p (wN (wT p MT Ff) (zdH p.N m (K.take 0)))):=kA (by rw[sr.out];exact H9);subst Dy;clear Nq zc Hr H9 sr;go_wp2
     go_loopw [13,52] (λ_ i wx=>∃k:Nat,k<=nk/\i= .int .i64 k/\ChL w4 wx p (wN (wT p MT Ff) (zdH p.N m (K.take k)))) (λ_ i _=>nk - (ivl i).toNat)
     case atStart=>exact⟨0,om,rfl,QO⟩
     case round=>
      clear QO;obtain⟨k,hk,rfl,Hi⟩:=hrel;obtain⟨tO,Kf⟩:=DL.out wr _ Hi;obtain⟨c1,hg⟩:=Cz.out wr _ _ _ _ Hi;have H9:=kA Hi;clear Hi
      by_cases hlt:k<nk
      ·obtain⟨b,off,z,rfl,hz,cz⟩:=zci Kf hlt;have Ho:=World.block_lt_of_cell? _ _ cz;have KH:=QG.out z (mem_of_getElem? hz);have Yy:ChL w4 wr.drew p (wN (wT p MT Ff) (zdH p.N m (K.take k))):=H9.behind (zav wr);obtain⟨w6,r6,zh⟩:=xu.out w4 wr.drew MT Ff k z Yy hz;have JR:=(DL w6 _ zh).1.get KH;obtain⟨tZ,_⟩:=Cz.out w6 _ _ _ _ zh;have Ee:=kA zh;obtain⟨nd,DJ⟩:∃nd,nd=(m z).getD zNd:=⟨_,rfl⟩;have Nr:(Instr.lookup 204 (.map (some gl)) (.int .i64 z) false).run prog wr.drew= .ok (.agg #[.int .i64 nd.id,.int .i64 nd.par,.int .i64 (nd.pl 0),.int .i64 (nd.pl 1),.int .i64 (nd.pl 2),.int .i64 (nd.pl 3),.int .i64 (nd.pl 4),.int .i64 (nd.pl 5),.int .i64 (nd.pl 6),.int .i64 (nd.pl 7),.int .i64 (nd.pl 8),.int .i64 (nd.pl 9),.int .i64 (nd.pl 10),.int .i64 (nd.pl 11),.bool nd.hid]) wr.drew:=by rw[DJ];exact (tO.keep (zav wr)).get KH
       have Xe:(Instr.lookup 204 (.map (some gl)) (.int .i64 z) false).run prog w6= .ok (.agg #[.int .i64 nd.id,.int .i64 nd.par,.int .i64 (nd.pl 0),.int .i64 (nd.pl 1),.int .i64 (nd.pl 2),.int .i64 (nd.pl 3),.int .i64 (nd.pl 4),.int .i64 (nd.pl 5),.int .i64 (nd.pl 6),.int .i64 (nd.pl 7),.int .i64 (nd.pl 8),.int .i64 (nd.pl 9),.int .i64 (nd.pl 10),.int .i64 (nd.pl 11),.bool nd.hid]) w6:=by rw[DJ];exact JR
       rw[<-DJ]at r6;have SA:=kA (And.intro c1 Nr);have SE:=kA (And.intro tZ Xe);have QN:Hid (∀W,(Instr.build 215 #[(0,.agg (lM nd.pl).toArray),(1,.bool nd.hid)]).run prog W= .ok (.agg (cBd (nd.pl,nd.hid)).toArray) W):=kA (zu2 nd.pl nd.hid);obtain⟨XB,zY⟩:∃XB,XB=cBd (nd.pl,nd.hid):=⟨_,rfl⟩;rw[<-zY]at r6 QN;have tP:=QN.out;have k0:(0:Int)<=(k:Int):=om;have k1:(k:Int)<(nk:Int):=om;clear Kf tO hz KH Yy zh JR tZ DJ Nr Xe zY H9 c1 QN;go_wp2;refine wp_region_held_drew (S:=λw'=>w'.cell? ⟨g,1,none⟩=some (.map (some gn))/\(Instr.lookup 204 (.map (some gl)) (.int .i64 z) false).run prog w'= .ok (.agg #[.int .i64 nd.id,.int .i64 nd.par,.int .i64 (nd.pl 0),.int .i64 (nd.pl 1),.int .i64 (nd.pl 2),.int .i64 (nd.pl 3),.int .i64 (nd.pl 4),.int .i64 (nd.pl 5),.int .i64 (nd.pl 6),.int .i64 (nd.pl 7),.int .i64 (nd.pl 8),.int .i64 (nd.pl 9),.int .i64 (nd.pl 10),.int .i64 (nd.pl 11),.bool nd.hid]) w') oM (SA.out) (λhHeld=> ?_);refine tk 0 hHeld ?_;refine tk 1 hHeld ?_;refine tk 2 hHeld ?_;refine tk 3 hHeld ?_;refine tk 4 hHeld ?_;refine tk 5 hHeld ?_;refine tk 6 hHeld ?_;refine tk 7 hHeld ?_;refine wpAnyH_take (i:=8) (v:=(.agg (lM nd.pl).toArray)) rfl oM oM oM (λ_ _ _ h=>h) (zc2 (by rfl) 205 _ 2 rfl (.agg #[.int .i64 nd.id,.int .i64 nd.par,.int .i64 (nd.pl 0),.int .i64 (nd.pl 1),.int .i64 (nd.pl 2),.int .i64 (nd.pl 3),.int .i64 (nd.pl 4),.int .i64 (nd.pl 5),.int .i64 (nd.pl 6),.int .i64 (nd.pl 7),.int .i64 (nd.pl 8),.int .i64 (nd.pl 9),.int .i64 (nd.pl 10),.int .i64 (nd.pl 11),.bool nd.hid]) _ rfl (zsF _ _ _ _)) hHeld ?_;simp only[Act.put,getElem_toArray,getElem_cons_zero,getElem_cons_succ,setIfInBounds_toArray,set_cons_zero,set_cons_succ];refine tk 9 hHeld ?_;refine tk 10 hHeld ?_;refine tk 11 hHeld ?_;refine wpAnyH_take (i:=12) (v:=(.bool nd.hid)) rfl oM oM oM (λ_ _ _ h=>h) (zc2 (by rfl) 205 _ 3 rfl (.agg #[.int .i64 nd.id,.int .i64 nd.par,.int .i64 (nd.pl 0),.int .i64 (nd.pl 1),.int .i64 (nd.pl 2),.int .i64 (nd.pl 3),.int .i64 (nd.pl 4),.int .i64 (nd.pl 5),.int .i64 (nd.pl 6),.int .i64 (nd.pl 7),.int .i64 (nd.pl 8),.int .i64 (nd.pl 9),.int .i64 (nd.pl 10),.int .i64 (nd.pl 11),.bool nd.hid]) _ rfl (zx4 _ _ _ _)) hHeld ?_;simp only[Act.put,getElem_toArray,getElem_cons_zero,getElem_cons_succ,setIfInBounds_toArray,set_cons_zero,set_cons_succ];refine wpAnyH_take (i:=13) (v:=(.agg XB.toArray)) rfl oM oM oM (λ_ _ _ h=>h) (zbx (by rfl) 215 _ _ rfl (.agg (lM nd.pl).toArray) (.bool nd.hid) (.agg XB.toArray) rfl rfl tP) hHeld ?_;simp only[Act.put,getElem_toArray,getElem_cons_zero,getElem_cons_succ,setIfInBounds_toArray,set_cons_zero,set_cons_succ];refine rd 14 (λK hK=> ?_);go_simp;refine hK.out _ _ SE (λhHeld=> ?_);clear hK;refine wpAnyH_done oM ?_ _;go_wp2;go_roundw
       case rel=>exact⟨k+1,om,by go_num,Ee⟩
       case measure=>simp[ivl] <;> omega
      ·obtain rfl:k=nk:=om;have e0:K.take k=K:=take_of_length_le (by rw[Eb.out];exact Nat.le_refl _);rw[e0]at H9;have Ns:=kA (tN wr H9 ze vO);have k1:¬(k:Int)<(k:Int):=om;clear e0 Kf tO hlt;go_wp2_with fail;refine Ns.mono ?_;rintro e w7 ⟨rfl,hq⟩;have HQ:=kA hq;clear hq Ns;go_wp2;go_ret;exact⟨rfl,HQ⟩
    ·have HQ:=kA (Hr w4 w5 Ff HB (by trivial) Dy H9);clear H9 Hr zc;go_wp2;go_ret;exact⟨rfl,HQ⟩
end
section
variable {w:World} {p:Wp} {D:FD}
theorem zk1{q:Wp}(Hi:ChL w u p q)(hD:DOk D)(hL:LIf D q){x:Int}(hx:Rg x)(hd:zcx D x=true)(Cb:D.L.length<=300):
  u.cell? ⟨q.g,0,none⟩=some (.pointer (some ⟨q.gf,0,none⟩))/\q.g<u.heap.size/\Calls prog 121 #[.pointer (some ⟨q.gf,0,none⟩),.int .i64 x] u λe w1=>∃a n cap,e= .returned (.slice a n cap)/\
   Calls prog 120 #[.pointer (some ⟨q.g,0,none⟩),.slice a n cap] w1 λe w2=>e= .returned (.tuple #[])/\w2.cell? ⟨q.g,0,none⟩=some (.pointer (some ⟨q.gf,0,none⟩))/\q.g<w2.heap.size/\
    Calls prog 95 #[.pointer (some ⟨q.gf,0,none⟩),.slice (some ⟨w2.heap.size,0,none⟩) 1 1] (w2.alloc (.cells #[.int .i64 x] 81)) λe w3=>∃z,e= .returned (.int .i64 z)/\
     ∃w4 w5 w6 q',w3.cell? ⟨q.g,1,none⟩=some (.map (some q.gn))/\q.g<w3.heap.size/\(∀ty,(Builtin.delete_ #[197,81] ty #[.map (some q.gn),.int .i64 x]).run prog w3= .ok (.tuple #[]) w4)/\
      w4.cell? ⟨q.g,2,none⟩=some (.map (some q.gs))/\q.g<w4.heap.size/\(∀ty,(Builtin.delete_ #[198,81] ty #[.map (some q.gs),.int .i64 x]).run prog w4= .ok (.tuple #[]) w5)/\
      w5.cell? ⟨q.g,3,none⟩=some (.map (some q.gm))/\q.g<w5.heap.size/\(∀ty,(Builtin.delete_ #[199,81] ty #[.map (some q.gm),.int .i64 x]).run prog w5= .ok (.tuple #[]) w6)/\
      q'.g=q.g/\ChL w w6 p q'/\LIf (za2 D x) q':=by
 have h:=Hi.1;have qO:=hL.len;refine⟨h.cells.1,h.cells.2.2.2.2.2,?_⟩;obtain⟨gp,gc,bl,cp,dj,_⟩:=h.fo;refine (zeV dj (show q.T.length<=1000 by omega) hx).mono ?_;rintro e w1 ⟨v,rfl,Hc,Hv⟩;obtain⟨a,cap,rfl,He⟩:=Hc.row;have h1:=h.keep Hv;have Kj:Aw (zba q) a (chF q.T x).length:=by
  by_cases z:(chF q.T x).length=0
  ·exact .inl z
  ·refine .inr (λad e hf=> ?_);have k1:=h.inb _ hf;have k2:=(World.ownsRow.lt Hc ad.block (by rw[e];rfl)).1;omega
 have de:Rgs (chF q.T x):=λz hz=>zra hL.wf.1 dj.rng hz;refine⟨a,_,cap,rfl,(zfG h1 (by have:=zeq q.T x;omega) He Kj de (D.L.map Nd.id) (λy hy=>zi0.1 ((hL.mrk y).1 hy).1) (by rw[length_map];omega)).mono ?_⟩;rintro e w2 ⟨rfl,dx⟩;have c2:=dx.1.cells;refine⟨rfl,c2.1,c2.2.2.2.2.2,(dx.1.free1 hL.wf (show q.T.length<=1000 by omega) hx).mono ?_⟩;rintro e w3 ⟨z,rfl,Ff,xC⟩;obtain⟨w4,r4,m4,g4⟩:=xC.1.nod.del hx;have Yr:=xC.1.setN m4 g4;obtain⟨w5,r5,m5,g5⟩:=Yr.1.sts.del hx;have Ys:=Yr.1.setS m5 g5;obtain⟨w6,r6,m6,g6⟩:=Ys.1.mrk.del hx;have sW:=Ys.1.setM m6 g6;refine⟨z,rfl,w4,w5,w6,zzu q x Ff,xC.1.cells.2.1,xC.1.cells.2.2.2.2.2,r4,Yr.1.cells.2.2.1,Yr.1.cells.2.2.2.2.2,r5,Ys.1.cells.2.2.2.1,Ys.1.cells.2.2.2.2.2,r6,rfl,?_,hL.drop hD hd Ff⟩;exact (((((Hi.join (ChL.still h Hv)).join dx).join xC).join Yr).join Ys).join sW
theorem zpl(hD:DOk D)(hL:LIf D p)(h:LW w p){a:Option Addr}{n cap:Nat}{xs:List Int}(row:Row w a n xs)(ha:Aw (zba p) a n)(hx:Rgs xs)(hn:n<=1000)(Cb:D.L.length<=300):
  Calls prog 69 #[.pointer (some ⟨p.g,0,none⟩),.slice a n cap] w λe w'=>e= .returned (.int .i64 (ze0 D xs:Nat))/\∃q,q.g=p.g/\ChL w w' p q/\LIf (zbs D xs) q:=by
 have Hy:=row.2.1;have Kw:=kA row.1;have hJ:Hid (∀u q,ChL w u p q->Row u a n xs):=kA (λu q k=>zbI row ha k.2.1);have Hk:Hid (∃q,q.g=p.g/\ChL w w p q/\LIf (zbs D (xs.take 0)) q):=kA ⟨p,rfl,ChL.still h (Below.refl _ _),hL⟩
 have xF:Hid (∀u q j z,q.g=p.g->ChL w u p q->LIf (zbs D (xs.take j)) q->Rg z->Calls prog 119 #[.pointer (some ⟨p.g,0,none⟩),.int .i64 z] u λe w'=>e= .returned (.bool (zcx (zbs D (xs.take j)) z))/\ChL w w' p q):=kA (λu q j z e k hq hz=>by
  rw[<-e];refine (zkV k.1 hz).mono ?_;rintro e w' ⟨rfl,hb⟩;refine⟨?_,k.behind hb⟩;rw[hq.nodS]
  rfl)
 have H9:Hid (∀u q j z,q.g=p.g->ChL w u p q->LIf (zbs D (xs.take j)) q->xs[j]? =some z->zcx (zbs D (xs.take j)) z=true->u.cell? ⟨p.g,0,none⟩=some (.pointer (some ⟨q.gf,0,none⟩))/\p.g<u.heap.size/\Calls prog 121 #[.pointer (some ⟨q.gf,0,none⟩),.int .i64 z] u λe w1=>∃a n cap,e= .returned (.slice a n cap)/\
   Calls prog 120 #[.pointer (some ⟨p.g,0,none⟩),.slice a n cap] w1 λe w2=>e= .returned (.tuple #[])/\w2.cell? ⟨p.g,0,none⟩=some (.pointer (some ⟨q.gf,0,none⟩))/\p.g<w2.heap.size/\
    Calls prog 95 #[.pointer (some ⟨q.gf,0,none⟩),.slice (some ⟨w2.heap.size,0,none⟩) 1 1] (w2.alloc (.cells #[.int .i64 z] 81)) λe w3=>∃y,e= .returned (.int .i64 y)/\
     ∃w4 w5 w6,w3.cell? ⟨p.g,1,none⟩=some (.map (some q.gn))/\p.g<w3.heap.size/\(∀ty,(Builtin.delete_ #[197,81] ty #[.map (some q.gn),.int .i64 z]).run prog w3= .ok (.tuple #[]) w4)/\
      w4.cell? ⟨p.g,2,none⟩=some (.map (some q.gs))/\p.g<w4.heap.size/\(∀ty,(Builtin.delete_ #[198,81] ty #[.map (some q.gs),.int .i64 z]).run prog w4= .ok (.tuple #[]) w5)/\
      w5.cell? ⟨p.g,3,none⟩=some (.map (some q.gm))/\p.g<w5.heap.size/\(∀ty,(Builtin.delete_ #[199,81] ty #[.map (some q.gm),.int .i64 z]).run prog w5= .ok (.tuple #[]) w6)/\
      ∃q',q'.g=p.g/\ChL w w6 p q'/\LIf (zbs D (xs.take (j+1))) q'):=kA (λu q j z e k hq hz hd=>by
  have hs:=(zfx (xs.take j) D 300 Cb).1;obtain⟨c1,c2,c3⟩:=zk1 k (DOk.drops _ hD) hq (hx z (mem_of_getElem? hz)) hd om;rw[e]at c1 c2 c3;refine⟨c1,c2,c3.mono ?_⟩;rintro e1 w1 ⟨a,n,cap,rfl,h2⟩;refine⟨a,n,cap,rfl,h2.mono ?_⟩;rintro e2 w2 ⟨rfl,d1,d2,h3⟩;refine⟨rfl,d1,d2,h3.mono ?_⟩;rintro e3 w3 ⟨y,rfl,w4,w5,w6,q',k1,k2,k3,k4,k5,k6,k7,k8,k9,Ef,ql,Eg⟩;refine⟨y,rfl,w4,w5,w6,k1,k2,k3,k4,k5,k6,k7,k8,k9,q',Ef,ql,?_⟩;rw[zh4 hz]
  exact Eg)
 have Hr:Hid (∀j z,xs[j]? =some z->zcx (zbs D (xs.take j)) z=false->zbs D (xs.take (j+1))=zbs D (xs.take j)):=kA (λj z hz hd=>by
  rw[zh4 hz];unfold za2
  rw[if_neg (by rw[hd];simp)])
 have tQ:Hid (∀j z,xs[j]? =some z->ze0 D (xs.take (j+1))=ze0 D (xs.take j)+(if zcx (zbs D (xs.take j)) z then 1 else 0)):=kA (λj z hz=>zh5 hz)
 have Cz:Hid (∀j,ze0 D (xs.take j)<=1000):=kA (λj=>by
  have h1:=znn (xs.take j) D;have h2:=row.1;rw[length_take]at h1
  omega)
 have cC:=kA hx;obtain⟨g,hge⟩:∃g,g=p.g:=⟨_,rfl⟩;rw[<-hge]at Hk xF H9 ⊢;clear h row ha hx hD hL Cb hge;go_enter func69,ntmps69;go_wp2
 go_loopw [5,7,12] (λv5 _ i wr=>∃ (j:Nat) (q:Wp),j<=n/\i= .int .i64 j/\v5= .int .i64 (ze0 D (xs.take j):Nat)/\q.g=g/\ChL w wr p q/\LIf (zbs D (xs.take j)) q) (λ_ _ i _=>n - (ivl i).toNat)
 case atStart=>
  obtain⟨q,h1,h2,h3⟩:=Hk;exact⟨0,q,om,rfl,rfl,h1,h2,h3⟩
 case round=>
  clear Hk;obtain⟨j,q,hj,rfl,rfl,Nt,Hi,YZ⟩:=hrel;have Kf:=hJ.out wr q Hi;have HC:=kA Hi;have xt:=kA YZ;have HQ:=kA Nt;have dE:=Cz.out j;clear Hi YZ Nt
  by_cases hlt:j<n
  ·obtain⟨b,off,z,rfl,hz,cz⟩:=zci Kf hlt;have Ho:=World.block_lt_of_cell? _ _ cz;have HZ:=kA hz;have HH:=kA (xF wr q j z HQ HC xt (cC z (mem_of_getElem? hz)));have Dz:=kA (tQ j z hz);obtain⟨cn,XT⟩:∃cn,cn=ze0 D (xs.take j):=⟨_,rfl⟩;rw[<-XT]at dE Dz ⊢;obtain⟨df,tT⟩:∃df,df=zcx (zbs D (xs.take j)) z:=⟨_,rfl⟩;rw[<-tT]at HH Dz;have Nu:=kA tT.symm;have j0:(0:Int)<=(j:Int):=om;have j1:(j:Int)<(n:Int):=om;clear Kf hz XT tT HC;go_wp2_with fail;refine HH.mono ?_;rintro e w1 ⟨rfl,Dd⟩;have Qg:=kA Dd;clear Dd HH
   cases df with
   | false=>
    have HE:Hid (LIf (zbs D (xs.take (j+1))) q):=kA (by rw[Hr.out j z HZ Nu];exact xt);go_wp2;go_roundw
    case rel=>exact⟨j+1,q,om,by go_num,by rw[Dz.out];rfl,HQ.out,Qg.out,HE⟩
    case measure=>simp[ivl] <;> omega
   | true=>
    obtain⟨c0,hg,dR⟩:=H9.out w1 q j z HQ Qg xt HZ Nu;have su:=kA dR;obtain⟨gf,Nv⟩:∃gf,gf=q.gf:=⟨_,rfl⟩;obtain⟨gn,Nw⟩:∃gn,gn=q.gn:=⟨_,rfl⟩;obtain⟨gs,Dt⟩:∃gs,gs=q.gs:=⟨_,rfl⟩;obtain⟨gm,YH⟩:∃gm,gm=q.gm:=⟨_,rfl⟩;rw[<-Nv]at su c0;rw[<-Nw,<-Dt,<-YH]at su;clear dR Nv Nw Dt YH;go_wp2_with fail;refine su.mono ?_;rintro e w2 ⟨ka,kn,kc,rfl,hm⟩;have HM:=kA hm;clear hm su c0 hg;go_wp2_with fail;refine HM.mono ?_;rintro e w3 ⟨rfl,c0,hg,hf⟩;have HF:=kA hf;clear hf HM;go_wp2_with fail;refine HF.mono ?_;rintro e w4 ⟨y,rfl,w5,w6,w7,c1,z1,r1,c2,z2,r2,c3,z3,r3,hq⟩;have Nx:=kA hq;clear hq HF c0 hg;go_wp2_with (at_builtin;first | refine za9 rfl (.tmp 38) (.tmp 39) 197 81 rfl _ _ rfl rfl (r1 _) ?_ | refine za9 rfl (.tmp 43) (.tmp 44) 198 81 rfl _ _ rfl rfl (r2 _) ?_ | refine za9 rfl (.tmp 48) (.tmp 49) 199 81 rfl _ _ rfl rfl (r3 _) ?_)
    obtain⟨q',Xl,Qm,zZ⟩:=Nx.out;have HE:=kA (And.intro Xl (And.intro Qm zZ));clear Xl Qm zZ Nx;go_roundw
    case rel=>exact⟨j+1,q',om,by go_num,by rw[Dz.out];go_num,HE⟩
    case measure=>simp[ivl] <;> omega
  ·obtain rfl:j=n:=om;have e0:xs.take j=xs:=take_of_length_le (by rw[Kw.out];exact Nat.le_refl _);rw[e0]at xt dE ⊢;have HE:=kA (And.intro HQ.out (And.intro HC.out xt.out));have j1:¬(j:Int)<(j:Int):=om;clear e0 Kf HC xt HQ;go_wp2;go_ret;exact⟨rfl,q,HE⟩
end
theorem zmA{ops:Array Oper}{rest:List Oper}{op:Oper}{a:Go.Act}{Q:Exit->Go.Act->World->Prop}(Kg:op.guard=none)(tm:Operand)(t:TypeId)
  (ho:op.op= .call { callee:= .builtin .clear,args:= #[tm],argTypes:= #[t] })(v:Value)(hm:a.eval tm=v)
  (hr:(Builtin.clear_ #[t] op.type #[v]).run prog w= .ok (.tuple #[]) w')(h:wpList prog ops Q rest (a.put op.dst (.tuple #[])) w'):wpList prog ops Q (op::rest) a w:=by
 refine wpList_plain Kg λK hK=> ?_;have h3:=hK _ _ h;unfold Oper.wp execOp;simp only[ho,resolve,invoke,builtin,Sem.run_bind,Sem.run_pure,Result.andThen_ok,map_toArray,map_cons,map_nil,hm,hr];exact h3
theorem zfH{u':World}{v:Value}(h:LRes w u xs v)(hin:∀b,F b->b<w.heap.size)(hf:Fr u u' F):LRes w u' xs v:=by
 obtain⟨a,cap,e,hr,hn⟩:=h;refine⟨a,cap,e,zbI hr ?_ hf,hn⟩;rcases hn with c | c
 ·exact .inl c
 ·exact .inr (λad e Qd=>by have:=hin _ Qd;have:=c ad e;omega)
theorem zu3{L:List Nd}(h:(L.map Nd.id).Nodup):(zbJ L).Pairwise (·<·):=by
 have h1:(zbJ L).Pairwise (·<=·):=ziW _;have h2:(zbJ L).Nodup:=(za4 _).nodup_iff.2 h;have h3:(zbJ L).Pairwise (·≠·):=h2;exact (h1.and h3).imp (fun {a b} c=>om)
section
variable {w:World} {p:Wp} {D:FD}
theorem LIf.names(hD:DOk D)(hL:LIf D p)(z:Int):z∈zbJ D.L↔Rg z/\(p.N z).isSome=true:=by
 rw[hL.nodS,zbg];constructor
 ·intro h;obtain⟨n,hn,e⟩:=zaN.1 h;exact⟨by rw[<-e];exact (hD.rg n hn).1,h⟩
 ·exact And.right
theorem zju(hD:DOk D)(hL:LIf D p)(h:LW w p)(Cb:D.L.length<=300){V:World}(hV:Bw w V):
  V.cell? ⟨p.g,0,none⟩=some (.pointer (some ⟨p.gf,0,none⟩))/\V.cell? ⟨p.g,3,none⟩=some (.map (some p.gm))/\Calls prog 130 #[.map (some p.gm)] V λe w1=>∃f,e= .returned f/\w1.cell? ⟨p.g,0,none⟩=some (.pointer (some ⟨p.gf,0,none⟩))/\w1.cell? ⟨p.g,3,none⟩=some (.map (some p.gm))/\
   Calls prog 123 #[f] w1 λe w2=>∃a n cap,e= .returned (.slice a n cap)/\w2.cell? ⟨p.g,0,none⟩=some (.pointer (some ⟨p.gf,0,none⟩))/\w2.cell? ⟨p.g,3,none⟩=some (.map (some p.gm))/\
    Calls prog 129 #[.pointer (some ⟨p.gf,0,none⟩),.slice a n cap] w2 λe w3=>∃v,e= .returned v/\w3.cell? ⟨p.g,0,none⟩=some (.pointer (some ⟨p.gf,0,none⟩))/\w3.cell? ⟨p.g,3,none⟩=some (.map (some p.gm))/\LRes w w3 (zah D) v/\zq0 v/\Bw w w3:=by
 have hv:=h.keep hV;have qO:=hL.len;have Ny:∀z,z∈zfi (zbU D)↔Rg z/\(p.M z).isSome=true:=λz=>by
  rw[zb0,<-hL.mark_dirty];refine⟨λq=>⟨?_,q⟩,And.right⟩;obtain⟨n,hn,e⟩:=zaN.1 ((hL.mrk z).1 q).1;rw[<-e];exact (hD.rg n hn).1
 have C9:(zfi (zbU D)).length<=D.L.length:=by
  have:=zef (m:=D.L.map Nd.id) (zg4 (zfu (zbU D))) (λz hz=>zi0.1 (zh3 (zb0.1 hz)))
  rwa [length_map]at this
 refine⟨hv.cells.1,hv.cells.2.2.2.1,(zzl (some p.gm) V).mono ?_⟩;rintro e w1 ⟨rfl,rfl⟩;have Hl:Bw V (V.alloc (.cells #[.map (some p.gm)] 199)):=zaa _ _;have h1:=hv.keep Hl;refine⟨_,rfl,h1.cells.1,h1.cells.2.2.2.1,(zuR hv.mrk (zfi (zbU D)) (zfu _) Ny).mono ?_⟩;rintro e w2 ⟨v,rfl,Hc,Kd⟩;obtain⟨a,cap,rfl,He⟩:=Hc.row;have h2:=hv.keep Kd;refine⟨a,_,cap,rfl,h2.cells.1,h2.cells.2.2.2.1,?_⟩;obtain⟨gp,gc,bl,cp,dj,_⟩:=h2.fo;refine (zo3 (cap:=cap) dj hL.wf om om He (λz hz=>((Ny z).1 hz).1)).mono ?_;rintro e w3 ⟨v,rfl,Yg,D4,KL⟩;have h3:=h2.keep KL;refine⟨v,rfl,h3.cells.1,h3.cells.2.2.2.1,?_,D4,zad (zad hV Kd) KL⟩;have ht:zfO p.T (zfi (zbU D))=zah D:=hL.touch hD (λz=>by rw[zb0,hL.mark_dirty]);rw[ht]at Yg;obtain⟨a3,c3,e3,r3,n3⟩:=Yg;have hs:=(zad hV Kd).size;exact⟨a3,c3,e3,r3,n3.imp id (λq ad e=>by have:=q ad e;omega)⟩
theorem zsI(hD:DOk D)(hL:LIf D p)(h:LW w p)(Cb:D.L.length<=300)(hst:D.steps<=1000000):
  Calls prog 72 #[.pointer (some ⟨p.g,0,none⟩)] w λe w'=>∃v,e= .returned (.tuple #[v,.int .i64 (zeC D)])/\LRes w w' (zah D) v/\zq0 v/\∃q,q.g=p.g/\zba q=zba p/\ChL w w' p q/\LIf (zc4 D) q:=by
 have dG:=kA (zju hD hL h Cb (zav w));have YY:=zdX hD.wf;have vQ:=hL.st
 have db:Hid (∀W a n cap,Bw w W->LRes w W (zah D) (.slice a n cap)->n=(zah D).length->W.cell? ⟨p.g,4,none⟩=some (.int .i64 p.st)/\W.frozen? ⟨p.g,4,none⟩=false/\p.g<W.heap.size/\∀z,z=((p.st+n:Nat):Int)->Calls prog 131 #[.pointer (some ⟨p.g,0,none⟩),.slice a n cap] (W.setCell ⟨p.g,4,none⟩ (.int .i64 z)) λe w'=>e= .returned (.int .i64 (zeC D))/\ChL w w' p (zvU p (zcR D.L (zah D) p.S n) p.M (p.st+n))/\LRes w w' (zah D) (.slice a n cap)):=kA (λW a n cap hb Yg hn=>by
  have h1:=h.keep hb;refine⟨h1.cells.2.2.2.2.1,h1.blk.frozen 4,h1.cells.2.2.2.2.2,λz hz=> ?_⟩;have Dd:=(ChL.still h hb).join (h1.setT (p.st+n) hz);have tW:=zfH Yg h.inb (h1.setT (p.st+n) hz).2.1;obtain⟨a',c',e',r',n'⟩:=tW;injection e' with e1 e2 e3;subst e1 e3;have YZ:LIf { D with steps:=p.st+n } { p with st:=p.st+n }:=⟨hL.wf,hL.par,hL.nod,hL.mrk,hL.non,hL.sts,rfl⟩;have Eh:DOk { D with steps:=p.st+n }:=⟨hD.nod,hD.wf,hD.ok,hD.nn,hD.rg,hD.st⟩;have Kj:Aw (zba p) a (zah D).length:=by
   rcases n' with c | c
   ·exact .inl c
   ·exact .inr (λad e hf=>by have:=h.inb _ hf;have:=c ad e;omega)
  rw[hn];have hc:=zkX (cap:=cap) Eh YZ Dd.1 (by show D.L.length<=900;omega) r' Kj;refine hc.mono ?_;rintro e w' ⟨rfl,Hi⟩;refine⟨rfl,?_,a,cap,rfl,zbI r' Kj Hi.2.1,n'⟩;have:=Dd.join Hi;rw[hn]at this
  exact this)
 have zi:Hid (∀u n,n=(zah D).length->ChL w u p (zvU p (zcR D.L (zah D) p.S n) p.M (p.st+n))->zeC D=0->u.cell? ⟨p.g,3,none⟩=some (.map (some p.gm))/\p.g<u.heap.size/\∃w2,(∀ty,(Builtin.clear_ #[199] ty #[.map (some p.gm)]).run prog u= .ok (.tuple #[]) w2)/\Fr u w2 (zba p)/\∃q,q.g=p.g/\zba q=zba p/\ChL w w2 p q/\LIf (zc4 D) q):=kA (λu n hn k h0=>by
  obtain⟨w2,r2,m2,g2⟩:=k.1.mrk.clear;have hc:=k.1.setM m2 g2;refine⟨k.1.cells.2.2.2.1,k.1.cells.2.2.2.2.2,w2,r2,hc.2.1,zvU p (zcR D.L (zah D) p.S n) (λ_=>none) (p.st+n),rfl,rfl,k.join hc,?_⟩;rw[hn]
  exact hL.runOk hD h0)
 have Z7:Hid (∀u n,n=(zah D).length->ChL w u p (zvU p (zcR D.L (zah D) p.S n) p.M (p.st+n))->zeC D≠0->Calls prog 132 #[.pointer (some ⟨p.g,0,none⟩)] u λe w1=>∃a n2 cap,e= .returned (.slice a n2 cap)/\Calls prog 120 #[.pointer (some ⟨p.g,0,none⟩),.slice a n2 cap] w1 λe w2=>e= .returned (.tuple #[])/\Fr u w2 (zba p)/\∃q,q.g=p.g/\zba q=zba p/\ChL w w2 p q/\LIf (zc4 D) q):=kA (λu n hn k h0=>by
  refine (zmr k.1 (zbJ D.L) (zu3 hD.nod) (λz=>hL.names hD z)).mono ?_;rintro e w1 ⟨v,rfl,Hc,Hv⟩;obtain⟨a,cap,rfl,He⟩:=Hc.row;have h1:=k.1.keep Hv;have Q8:=zri D.L;refine⟨a,_,cap,rfl,(zfG h1 om He ?_ (λz hz=>((hL.names hD z).1 hz).1) (D.L.map Nd.id) (λy hy=>zi0.1 ((hL.mrk y).1 hy).1) (by rw[length_map];omega)).mono ?_⟩
  ·by_cases z:(zbJ D.L).length=0
   ·exact .inl z
   ·refine .inr (λad e hf=> ?_);have k1:=k.1.inb _ hf;have k2:=(World.ownsRow.lt Hc ad.block (by rw[e];rfl)).1;omega
  ·rintro e w2 ⟨rfl,hc⟩;have Nz:=(ChL.still k.1 Hv).join hc;refine⟨rfl,Nz.2.1,mkP (zvU p (zcR D.L (zah D) p.S n) p.M (p.st+n)) (zbJ D.L),rfl,rfl,k.join Nz,?_⟩;have:=hL.runNo hD h0 n;rw[<-hn]at this
   exact this)
 have Cj:Hid (∀b,zba p b->b<w.heap.size):=kA h.inb;obtain⟨O,hO⟩:∃O,O=zah D:=⟨_,rfl⟩;obtain⟨E,hE⟩:∃E,E=zeC D:=⟨_,rfl⟩;rw[<-hO]at dG db zi Z7 YY ⊢;rw[<-hE]at db zi Z7 ⊢;obtain⟨g,hge⟩:∃g,g=p.g:=⟨_,rfl⟩;obtain⟨gf,cd⟩:∃gf,gf=p.gf:=⟨_,rfl⟩;obtain⟨gm,Xe⟩:∃gm,gm=p.gm:=⟨_,rfl⟩;obtain⟨st,Xw⟩:∃st,st=p.st:=⟨_,rfl⟩;obtain⟨P,hP⟩:∃P:Nat->Wp,P=λn=>zvU p (zcR D.L O p.S n) p.M (p.st+n):=⟨_,rfl⟩;have vR:Hid (∀W a n cap,Bw w W->LRes w W O (.slice a n cap)->n=O.length->W.cell? ⟨g,4,none⟩=some (.int .i64 st)/\W.frozen? ⟨g,4,none⟩=false/\g<W.heap.size/\∀z,z=((st+n:Nat):Int)->Calls prog 131 #[.pointer (some ⟨g,0,none⟩),.slice a n cap] (W.setCell ⟨g,4,none⟩ (.int .i64 z)) λe w'=>e= .returned (.int .i64 E)/\ChL w w' p (P n)/\LRes w w' O (.slice a n cap)):=kA (by rw[hP,hge,Xw];exact db);have yC:Hid (∀u n,n=O.length->ChL w u p (P n)->E=0->u.cell? ⟨g,3,none⟩=some (.map (some gm))/\g<u.heap.size/\∃w2,(∀ty,(Builtin.clear_ #[199] ty #[.map (some gm)]).run prog u= .ok (.tuple #[]) w2)/\Fr u w2 (zba p)/\∃q,q.g=g/\zba q=zba p/\ChL w w2 p q/\LIf (zc4 D) q):=kA (by rw[hP,hge,Xe];exact zi);have qR:Hid (∀u n,n=O.length->ChL w u p (P n)->E≠0->Calls prog 132 #[.pointer (some ⟨g,0,none⟩)] u λe w1=>∃a n2 cap,e= .returned (.slice a n2 cap)/\Calls prog 120 #[.pointer (some ⟨g,0,none⟩),.slice a n2 cap] w1 λe w2=>e= .returned (.tuple #[])/\Fr u w2 (zba p)/\∃q,q.g=g/\zba q=zba p/\ChL w w2 p q/\LIf (zc4 D) q):=kA (by rw[hP,hge];exact Z7);rw[<-hge,<-cd,<-Xe]at dG;rw[<-hge];have Ei:st<=1000000:=by rw[Xw,vQ];exact hst
 obtain⟨c0,c3,hk⟩:=dG.out;have vM:=kA hk;have hg:g<w.heap.size:=by rw[hge];exact h.cells.2.2.2.2.2
 have Ej:O.length<=300:=om;clear db zi Z7 dG hk h hL hD Cb hst vQ YY hO hE hge cd Xe Xw hP;go_enter func72,ntmps72;go_upto_region 3 with fail
 go_region_held3 (λw'=>w'.cell? ⟨g,0,none⟩=some (.pointer (some ⟨gf,0,none⟩))/\w'.cell? ⟨g,3,none⟩=some (.map (some gm))) (first | exact⟨c0,c3⟩ | exact⟨N4,c31⟩ | exact⟨QU,N5⟩ | exact⟨N6,N7⟩)
  (first
   | (go_at_call 130;refine vM.mono ?_;rintro e w1 ⟨f,rfl,N4,c31,hs⟩;have NA:=kA hs;clear hs)
   | (go_at_call 123;refine NA.mono ?_;rintro e w2 ⟨ka,kn,kc,rfl,QU,N5,hu⟩;have NB:=kA hu;clear hu)
   | (go_at_call 129;refine NB.mono ?_;rintro e w3 ⟨v,rfl,N6,N7,Yg,D4,KL⟩;have DN:=kA Yg;have tX:=kA D4;have dq:=kA KL;clear Yg D4 KL))
 obtain⟨a,cap,rfl,-,-⟩:=DN.out;obtain⟨n,hn⟩:∃n,n=O.length:=⟨_,rfl⟩;rw[<-hn]at DN tX Ej ⊢;obtain⟨c4,Ek,KO,yw⟩:=vR.out w3 a n cap dq DN hn;have dU:=kA (yw ((st:Int)+(n:Int)) (by rw[Int.natCast_add]));have dH:=kA hn;have hw:IntKind.i64.wrap ((st:Int)+(n:Int))=(st:Int)+(n:Int):=by rw[IntKind.wrap_i64];omega
 clear yw vR DN c0 c3 N4 c31 QU N5 N6 N7 hg vM NA NB hn;go_wp2_with fail;refine dU.mono ?_;rintro e w4 ⟨rfl,Hi,Yg⟩;have H9:=kA Hi;have DN:=kA Yg;clear Hi Yg dU c4 KO
 by_cases Dy:E=0
 ·obtain⟨c3,hg,w5,r5,kw,hq⟩:=yC.out w4 n dH H9 Dy;have HE:Hid (LRes w w5 O (.slice a n cap)/\∃q,q.g=g/\zba q=zba p/\ChL w w5 p q/\LIf (zc4 D) q):=kA ⟨zfH DN Cj kw,hq⟩;subst Dy;clear kw hq yC qR H9 DN;go_wp2_with (at_builtin;refine zmA rfl (.tmp 42) 199 rfl _ rfl (r5 _) ?_);go_ret2;exact⟨_,rfl,HE.1,tX.out,HE.2⟩
 ·have Hr:=kA (qR w4 n dH H9 Dy);clear yC qR H9;go_wp2_with fail;refine Hr.mono ?_;rintro e w5 ⟨ka,kn,kc,rfl,hm⟩;have HM:=kA hm;clear hm Hr;go_wp2_with fail;refine HM.mono ?_;rintro e w6 ⟨rfl,kw,hq⟩;have HE:Hid (LRes w w6 O (.slice a n cap)/\∃q,q.g=g/\zba q=zba p/\ChL w w6 p q/\LIf (zc4 D) q):=kA ⟨zfH DN Cj kw,hq⟩;clear kw hq HM DN;go_wp2;go_ret2;exact⟨_,rfl,HE.1,tX.out,HE.2⟩
end
def zzw(w:World)(g:Nat)(F:Nat->Prop)(D:FD):Prop:=∃p,p.g=g/\LW w p/\LIf D p/\∀b,F b↔zba p b
theorem zvV{p:Wp}(hF:∀b,F b↔zba p b)(h:∃q,q.g=g/\ChL w w' p q/\LIf D q):ChX zzw w w' g F D:=by
 obtain⟨q,hq,hc,hl⟩:=h;exact⟨zba q,⟨q,hq,hc.1,hl,λ_=>Iff.rfl⟩,Fr.of hc.2.1 (λb hb=>(hF b).2 hb),λb hb=>(hc.2.2 b hb).imp_left (λc=>(hF b).2 c)⟩
theorem zzx{p:Wp}(hF:∀b,F b↔zba p b)(h:∃q,q.g=g/\zba q=zba p/\ChL w w' p q/\LIf D q):ChR zzw w w' g F D:=by
 obtain⟨q,hq,hf,hc,hl⟩:=h;exact⟨zba q,⟨q,hq,hc.1,hl,λ_=>Iff.rfl⟩,Fr.of hc.2.1 (λb hb=>(hF b).2 hb),λb hb=>(hF b).2 (hf ▸ hb)⟩
theorem zpm(w:World):Calls prog 67 #[] w λe w'=>∃g F,e= .returned (.pointer (some ⟨g,0,none⟩))/\zzw w' g F FD0/\(∀b,F b->w.heap.size<=b)/\Bw w w':=by
 have Xh:= @run_makeMap prog;have YP:=kA (zkh w)
 have HE:Hid (∀ (w1:World) gf Ff,LFB w1 gf Ff []->(∀b,Ff b->w.heap.size<=b)->Bw w w1->∃F,zzw ((((w1.alloc (.map #[] 0)).alloc (.map #[] 0)).alloc (.map #[] 0)).alloc (.cells #[.pointer (some ⟨gf,0,none⟩),.map (some w1.heap.size),.map (some (w1.heap.size+1)),.map (some (w1.heap.size+2)),.int .i64 0] 201)) (w1.heap.size+3) F FD0/\(∀b,F b->w.heap.size<=b)/\Bw w ((((w1.alloc (.map #[] 0)).alloc (.map #[] 0)).alloc (.map #[] 0)).alloc (.cells #[.pointer (some ⟨gf,0,none⟩),.map (some w1.heap.size),.map (some (w1.heap.size+1)),.map (some (w1.heap.size+2)),.int .i64 0] 201))):=kA (λw1 gf Ff hf hn hb=>by
  have s1:(w1.alloc (.map #[] 0)).heap.size=w1.heap.size+1:=by simp
  have s2:((w1.alloc (.map #[] 0)).alloc (.map #[] 0)).heap.size=w1.heap.size+2:=by simp
  have s3:(((w1.alloc (.map #[] 0)).alloc (.map #[] 0)).alloc (.map #[] 0)).heap.size=w1.heap.size+3:=by simp
  have b1:Bw w1 (w1.alloc (.map #[] 0)):=zaa _ _;have b2:Below (w1.alloc (.map #[] 0)).heap.size (w1.alloc (.map #[] 0)) ((w1.alloc (.map #[] 0)).alloc (.map #[] 0)):=zaa _ _;have b3:Below ((w1.alloc (.map #[] 0)).alloc (.map #[] 0)).heap.size ((w1.alloc (.map #[] 0)).alloc (.map #[] 0)) (((w1.alloc (.map #[] 0)).alloc (.map #[] 0)).alloc (.map #[] 0)):=zaa _ _;obtain⟨W3,sg⟩:∃W3,W3=((w1.alloc (.map #[] 0)).alloc (.map #[] 0)).alloc (.map #[] 0):=⟨_,rfl⟩;have m1:=((MF.new bK w1).keep b2).keep b3;have m2:=(MF.new sK (w1.alloc (.map #[] 0))).keep b3;have m3:=MF.new xK ((w1.alloc (.map #[] 0)).alloc (.map #[] 0));rw[s1]at m2;rw[s2]at m3;have KL:=zad (zad b1 b2) b3;rw[<-sg]at m1 m2 m3 KL s3 ⊢;have b4:Bw W3 (W3.alloc (.cells #[.pointer (some ⟨gf,0,none⟩),.map (some w1.heap.size),.map (some (w1.heap.size+1)),.map (some (w1.heap.size+2)),.int .i64 0] 201)):=zaa _ _;have k:=Blk.new W3 201 #[.pointer (some ⟨gf,0,none⟩),.map (some w1.heap.size),.map (some (w1.heap.size+1)),.map (some (w1.heap.size+2)),.int .i64 0];rw[s3]at k;have zj:=hf.inb;have Ks:=hb.size;refine⟨zba ⟨w1.heap.size+3,gf,w1.heap.size,w1.heap.size+1,w1.heap.size+2,Ff,[],λ_=>none,λ_=>none,λ_=>none,0⟩,⟨⟨w1.heap.size+3,gf,w1.heap.size,w1.heap.size+1,w1.heap.size+2,Ff,[],λ_=>none,λ_=>none,λ_=>none,0⟩,rfl,⟨k,(hf.keep KL).keep b4,m1.keep b4,m2.keep b4,m3.keep b4,by show w1.heap.size+3≠w1.heap.size;omega,by show w1.heap.size+3≠w1.heap.size+1;omega,by show w1.heap.size+3≠w1.heap.size+2;omega,by show w1.heap.size≠w1.heap.size+1;omega,by show w1.heap.size≠w1.heap.size+2;omega,by show w1.heap.size+1≠w1.heap.size+2;omega,λc=>by have:=zj _ c;have:w1.heap.size+3<w1.heap.size:=this;omega,λc=>by have:w1.heap.size<w1.heap.size:=zj _ c;omega,λc=>by have:w1.heap.size+1<w1.heap.size:=zj _ c;omega,λc=>by have:w1.heap.size+2<w1.heap.size:=zj _ c;omega⟩,LIf.zero rfl rfl rfl rfl rfl,λ_=>Iff.rfl⟩,?_,zad (zad hb KL) b4⟩;rintro b (e | e | e | e | e)
  ·have:b=w1.heap.size+3:=e;omega
  ·have:b=w1.heap.size:=e;omega
  ·have:b=w1.heap.size+1:=e;omega
  ·have:b=w1.heap.size+2:=e;omega
  ·exact hn b e)
 go_enter func67,ntmps67;go_wp2_with fail;refine YP.mono ?_;rintro e w1 ⟨gf,Ff,rfl,h1,h2,h3⟩;have Kk:=kA (HE w1 gf Ff h1 h2 h3);clear h1 h2 h3 HE YP;go_wp2;go_ret;obtain⟨F,k1,k2,k3⟩:=Kk;exact⟨_,F,rfl,k1,k2,k3⟩
theorem fwe_holds:FWE zzw where
 keep_:=by
  rintro w w' g F D ⟨p,h1,h2,h3,h4⟩ he;exact⟨p,h1,h2.same (λb hb=>he b ((h4 b).2 hb)),h3,h4⟩
 inb:=by
  rintro w g F D ⟨p,h1,h2,h3,h4⟩ b hb;exact h2.inb b ((h4 b).1 hb)
 new:=zpm
 put:=by
  rintro w g F D a n cap l hD Cb ⟨p,rfl,h2,h3,h4⟩ hn hr hl;exact (zsH hD h3 h2 hr hl Cb hn).mono λ_ _ q=>⟨q.1,zvV h4 q.2⟩
 drop:=by
  rintro w g F D a n cap xs hD Cb ⟨p,rfl,h2,h3,h4⟩ hn hr ha hx;exact (zpl hD h3 h2 hr (ha.imp id (λc ad e hf=>c ad e ((h4 _).2 hf))) hx hn Cb).mono λ_ _ q=>⟨q.1,zvV h4 q.2⟩
 run:=by
  rintro w g F D hD Cb hst ⟨p,rfl,h2,h3,h4⟩;exact (zsI hD h3 h2 Cb hst).mono λ_ _ ⟨v,q1,q2,_,q3⟩=>⟨v,q1,q2,zzx h4 q3⟩
 state:=by
  rintro w g F D x hD Cb ⟨p,rfl,h2,h3,h4⟩ hx;refine (zmv h2 h3.wf (λy z e=>h3.parR hD e) hx).mono ?_;rintro e w' ⟨Y,rfl,hY,hb⟩;obtain⟨k1,k2⟩:=h3.state hD x;exact⟨Y,by rw[k1],hY.trans k2,hb⟩
open Go
theorem zx5{a b:Bool}(ha:a=true)(hb:b=true):(a && b)=true:=by rw[ha,hb];rfl
end Go.Proofs.YtlibdcmcbinfnaaGreat
namespace Go.Proofs.YtlibdcmcbinfnaaGreat.extractAnew
theorem zzy:joinedFacts Tryz.pinned.checked.prog 4 Tryz.f4 Rows.extractAnewSpec Rows.extractAnewRow=true:=by
 unfold joinedFacts
 iterate 31 apply zx5
 all_goals (as_aux_lemma=>kernel_rfl)
end Go.Proofs.YtlibdcmcbinfnaaGreat.extractAnew
