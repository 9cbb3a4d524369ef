/- Lemmas. -/
import Derived.Test.YtlibdcmcbinfnaaGreatMS42
set_option maxHeartbeats 100000000
set_option maxRecDepth 1000000
namespace Go.Proofs.YtlibdcmcbinfnaaGreat
open _root_.Go.Proofs.Tryz List Nat
open Go.RowKit
def zev(L:List Nd):FT:=L.filterMap (λn=>if 0<=n.par then some (n.id,n.par) else none)
variable{L:List Nd}{x y e c:Int}{n j cap:Nat}{T U:FT}{K P:List Int}{D:FD}{a:Option Addr}{w:World}
theorem zhr:(x,y)∈zev L↔∃n∈L,n.id=x/\0<=n.par/\n.par=y:=by
 unfold zev;rw[mem_filterMap];constructor
 ·rintro⟨n,hn,h⟩
  by_cases c:0<=n.par
  ·rw[if_pos c]at h;injection h with h;injection h with h1 h2;exact⟨n,hn,h1,c,h2⟩
  ·rw[if_neg c]at h;cases h
 ·rintro⟨n,hn,e1,c,e2⟩;exact⟨n,hn,by rw[if_pos c,e1,e2]⟩
theorem zmo(h:(L.map Nd.id).Nodup):((zev L).map Prod.fst).Nodup:=by
 have key:∀M:List Nd,(zev M).map Prod.fst=(M.filter (λn=>decide (0<=n.par))).map Nd.id:=by
  intro M;unfold zev
  induction M with
  | nil=>rfl
  | cons m M ih=>
   by_cases c:0<=m.par
   ·rw[filterMap_cons_some (b:=(m.id,m.par)) (by rw[if_pos c]),filter_cons_of_pos (by simpa using c),map_cons,map_cons,ih]
   ·rw[filterMap_cons_none (by rw[if_neg c]),filter_cons_of_neg (by simpa using c),ih]
 rw[key];exact h.sublist (List.Sublist.map _ filter_sublist)
theorem zdx(h:(L.map Nd.id).Nodup){x:Int}{n:Nd}(e:elF Nd.id L x=some n):zak (zev L) x=if 0<=n.par then some n.par else none:=by
 by_cases c:0<=n.par
 ·rw[if_pos c];exact zcG (zmo h) (zhr.2 ⟨n,(zbZ e).2,(zbZ e).1,c,rfl⟩)
 ·rw[if_neg c]
  cases hp:zak (zev L) x with
  | none=>rfl
  | some y=>
   obtain⟨m,hm,e1,c1,_⟩:=zhr.1 (zbo hp);have:=zdT h hm;rw[e1,e]at this;injection this with this;rw[this]at c;exact absurd c1 c
theorem zcE(e:elF Nd.id L x=none):zak (zev L) x=none:=by
 cases hp:zak (zev L) x with
 | none=>rfl
 | some y=>
  obtain⟨m,hm,e1,_⟩:=zhr.1 (zbo hp);exact absurd e1 (zcY.1 e m hm)
theorem zck(h:(L.map Nd.id).Nodup)(x:Int):zak (zaj L) x=match zak (zev L) x with
  | none=>none
  | some y=>if (elF Nd.id L y).isSome=true then some y else none:=by
 rw[zav h]
 cases e:elF Nd.id L x with
 | none=>rw[zcE e,zb9 e,if_neg om]
 | some n=>
  rw[zdx h e,zbm e]
  by_cases c:0<=n.par
  ·rw[if_pos c];show _=if (elF Nd.id L n.par).isSome=true then some n.par else none
   by_cases d:(elF Nd.id L n.par).isSome=true
   ·have hh:(if n.par<0∨(elF Nd.id L n.par).isNone=true then (-1:Int) else n.par)=n.par:=if_neg (λq=>q.elim (λq=>om) (λq=>zd6.1 q d))
    rw[hh,if_pos d,if_pos c]
   ·have hh:(if n.par<0∨(elF Nd.id L n.par).isNone=true then (-1:Int) else n.par)= -1:=if_pos (.inr (zd6.2 d))
    rw[hh,if_neg d,if_neg om]
  ·rw[if_neg c,if_pos (.inl om:_∨_),if_neg om]
theorem zvJ(h:(L.map Nd.id).Nodup)(hW:WF (zaj L)):WF (zev L):=by
 refine⟨zmo h,?_⟩;have key:∀ (l:List Int) (x:Int),IsA (zaj L) x l->∃l',IsA (zev L) x l':=by
  intro l
  induction l with
  | nil=>
   intro x hx;have h1:zak (zaj L) x=none:=hx;rw[zck h]at h1
   cases hp:zak (zev L) x with
   | none=>exact⟨[],hp⟩
   | some y=>
    rw[hp]at h1;simp only at h1
    by_cases d:(elF Nd.id L y).isSome=true
    ·rw[if_pos d]at h1;cases h1
    ·refine⟨[y],hp,?_⟩;show zak (zev L) y=none;refine zcE ?_
     cases q:elF Nd.id L y with
     | none=>rfl
     | some n=>rw[q]at d;exact absurd rfl d
  | cons y l ih=>
   intro x hx;have h1:=hx.1;rw[zck h]at h1;obtain⟨l',hl⟩:=ih y hx.2
   cases hp:zak (zev L) x with
   | none=>rw[hp]at h1;cases h1
   | some z=>
    rw[hp]at h1;simp only at h1
    by_cases d:(elF Nd.id L z).isSome=true
    ·rw[if_pos d]at h1;injection h1 with h1;exact⟨y::l',by rw[hp,h1],hl⟩
    ·rw[if_neg d]at h1;cases h1
 exact λx=>key _ x (hW.isA x)
theorem zzh(h:(L.map Nd.id).Nodup)(hW:WF (zev L)):WF (zaj L):=by
 refine⟨zdP h,?_⟩;have key:∀ (l:List Int) (x:Int),IsA (zev L) x l->∃l',IsA (zaj L) x l':=by
  intro l
  induction l with
  | nil=>
   intro x hx;have h1:zak (zev L) x=none:=hx;exact⟨[],by show zak (zaj L) x=none;rw[zck h,h1]⟩
  | cons y l ih=>
   intro x hx;obtain⟨l',hl⟩:=ih y hx.2
   by_cases d:(elF Nd.id L y).isSome=true
   ·exact⟨y::l',by rw[zck h,hx.1];simp only;rw[if_pos d],hl⟩
   ·exact⟨[],by show zak (zaj L) x=none;rw[zck h,hx.1];simp only;rw[if_neg d]⟩
 exact λx=>key _ x (hW.isA x)
theorem zsn{T U:FT}(h:∀x,zak T x=zak U x):∀ {l:List Int} {x:Int},IsA T x l->IsA U x l
 | [],x,hx=>by show zak U x=none;rw[<-h];exact hx
 | y::l,x,hx=>⟨by rw[<-h];exact hx.1,zsn h hx.2⟩
theorem zAu(hU:(U.map Prod.fst).Nodup)(h:∀x,zak T x=zak U x)(hT:WF T):WF U:=⟨hU,λx=>⟨_,zsn h (hT.isA x)⟩⟩
theorem zzi(hT:WF T)(hU:WF U)(h:∀x,zak T x=zak U x)(x:Int):abv T x=abv U x:=(hU.isA x).uniq (zsn h (hT.isA x)) |>.symm
theorem zxM(hn:(T.map Prod.fst).Nodup){x:Int}(h:x∈T.map Prod.fst):∃y,zak T x=some y:=by
 obtain⟨⟨a,b⟩,hp,e⟩:=mem_map.1 h;have e:a=x:=e;exact⟨b,zcG hn (e ▸ hp)⟩
theorem zxN(hn:(T.map Prod.fst).Nodup){K:List Int}(h:∀x,(zak T x).isSome=true->x∈K):T.length<=K.length:=by
 have:=zeb (m:=K) hn (λz hz=>by
  obtain⟨y,e⟩:=zxM hn hz
  exact h z (by rw[e];rfl))
 rwa [length_map]at this
def stv(L:List Nd)(x:Int):Option RD:=(zcd L x).1.map (λs=>(s,(abv (zaj L) x).length+1))
structure LIf (D:FD) (p:Wp):Prop where
 wf:WF p.T
 par:∀x,zak p.T x=zak (zev D.L) x
 nod:∀x,p.N x=(elF Nd.id D.L x).map (λn=>(n.pl,n.hid))
 mrk:∀x,(p.M x).isSome=true↔(elF Nd.id D.L x).isSome=true/\(D.begun=true->x∈D.dirty)
 non:∀x,elF Nd.id D.L x=none->p.S x=none
 sts:D.begun=true->∀x,(elF Nd.id D.L x).isSome=true->x∉zah D->p.S x=stv D.L x
 st:p.st=D.steps
section
variable {D:FD} {p:Wp}
theorem LIf.nodS(h:LIf D p)(x:Int):(p.N x).isSome=(elF Nd.id D.L x).isSome:=by rw[h.nod];cases elF Nd.id D.L x <;> rfl
theorem LIf.len(h:LIf D p):p.T.length<=D.L.length:=by
 have:=zxN h.wf.1 (K:=D.L.map Nd.id) (λx hx=>by
  rw[h.par]at hx;rw[<-ziW]
  cases e:elF Nd.id D.L x with
  | some n=>rfl
  | none=>rw[zcE e]at hx;cases hx)
 rwa [length_map]at this
theorem LIf.mark_dirty(h:LIf D p)(x:Int):(p.M x).isSome=true↔x∈zbT D:=by
 rw[h.mrk]
 by_cases hb:D.begun=true
 ·rw[zb0 hb];exact⟨λq=>⟨q.2 hb,q.1⟩,λq=>⟨q.2,λ_=>q.1⟩⟩
 ·unfold zbT;rw[if_neg hb,zbg];exact⟨λq=>q.1,λq=>⟨q,λc=>absurd c hb⟩⟩
theorem LIf.abvs(hD:DOk D)(h:LIf D p){x y:Int}(hy:(elF Nd.id D.L y).isSome=true):y∈abv p.T x↔y∈abv (zaj D.L) x:=by
 have hR:=zvJ hD.nod hD.wf;rw[zzi h.wf hR h.par];have k1:∀ (l:List Int) (x:Int),IsA (zev D.L) x l->y∈l->y∈abv (zaj D.L) x:=by
  intro l
  induction l with
  | nil=>intro x _ q;cases q
  | cons z l ih=>
   intro x hx q;have hz:(elF Nd.id D.L z).isSome=true:=by
    rcases mem_cons.1 q with rfl | q
    ·exact hy
    ·cases l with
     | nil=>cases q
     | cons a l=>
      cases e:elF Nd.id D.L z with
      | some n=>rfl
      | none=>have:=hx.2.1;rw[zcE e]at this;cases this
   have hp:zak (zaj D.L) x=some z:=by rw[zck hD.nod,hx.1];simp only;rw[if_pos hz]
   rw[za0 hD.wf hp];rcases mem_cons.1 q with rfl | q
   ·exact mem_cons_self
   ·exact mem_cons_of_mem _ (ih z hx.2 q)
 have k2:∀ (l:List Int) (x:Int),IsA (zaj D.L) x l->y∈l->y∈abv (zev D.L) x:=by
  intro l
  induction l with
  | nil=>intro x _ q;cases q
  | cons z l ih=>
   intro x hx q;have hp:zak (zev D.L) x=some z:=by
    have h1:=hx.1;rw[zck hD.nod]at h1
    cases e:zak (zev D.L) x with
    | none=>rw[e]at h1;cases h1
    | some a=>
     rw[e]at h1;simp only at h1
     by_cases d:(elF Nd.id D.L a).isSome=true
     ·rw[if_pos d]at h1;exact h1
     ·rw[if_neg d]at h1;cases h1
   rw[za0 hR hp];rcases mem_cons.1 q with rfl | q
   ·exact mem_cons_self
   ·exact mem_cons_of_mem _ (ih z hx.2 q)
 exact⟨k1 _ x (hR.isA x),k2 _ x (hD.wf.isA x)⟩
theorem LIf.chd(hD:DOk D)(h:LIf D p){x:Int}(hx:(elF Nd.id D.L x).isSome=true):chF p.T x=chF (zaj D.L) x:=by
 refine zg0 (zb5 h.wf.1 x) (zb5 hD.wf.1 x) (λz=> ?_);rw[zaA h.wf.1,zaA hD.wf.1,h.par,zck hD.nod]
 cases e:zak (zev D.L) z with
 | none=>simp
 | some y=>
  simp only
  by_cases d:(elF Nd.id D.L y).isSome=true
  ·rw[if_pos d]
  ·rw[if_neg d];constructor
   ·intro q;injection q with q;rw[q]at d;exact absurd hx d
   ·intro q;cases q
theorem LIf.touch(hD:DOk D)(h:LIf D p){K:List Int}(hK:∀z,z∈K↔(p.M z).isSome=true):zfK p.T K=zah D:=by
 have h1:zfK p.T K=zfK (zaj D.L) K:=ztH h.wf hD.wf (N:=λx=>(elF Nd.id D.L x).isSome=true) (λx hx=>((h.mrk x).1 ((hK x).1 hx)).1) (λx hx=>h.chd hD hx) (λx hx c hc=>by
  rw[h.chd hD hx]at hc;have:=zeQ.1 (zbo ((zaA hD.wf.1).1 hc));obtain⟨n,hn,e⟩:=this.1
  exact zaM.2 ⟨n,hn,e⟩) (λx y _ hy=>h.abvs hD hy)
 rw[h1];unfold zah;exact zwV (λz=>by rw[hK,h.mark_dirty])
def zih(T:FT)(M:Int->Option Unit)(x:Int):Bool:=(M x).isSome || (abv T x).any (λy=>(M y).isSome)
theorem zuQ{M:Int->Option Unit}(h:WF T){x:Int}(hp:zak T x=none):zih T M x=(M x).isSome:=by
 unfold zih;rw[zeM h hp];simp
theorem zuR{M:Int->Option Unit}(h:WF T){x y:Int}(hp:zak T x=some y):zih T M x=((M x).isSome || zih T M y):=by
 unfold zih;rw[za0 h hp];rfl
theorem LIf.dirty(hD:DOk D)(h:LIf D p)(x:Int):zih p.T p.M x=decide (x∈zah D):=by
 rw[Bool.eq_iff_iff,decide_eq_true_eq,zbj hD.wf];unfold zih;rw[Bool.or_eq_true,any_eq_true];constructor
 ·rintro (q | ⟨y,hy,q⟩)
  ·exact⟨x,(h.mark_dirty x).1 q,.inl rfl⟩
  ·exact⟨y,(h.mark_dirty y).1 q,.inr ((h.abvs hD ((h.mrk y).1 q).1).1 hy)⟩
 ·rintro⟨y,hy,rfl | q⟩
  ·exact .inl ((h.mark_dirty x).2 hy)
  ·have hm:=(h.mark_dirty y).2 hy;exact .inr ⟨y,(h.abvs hD ((h.mrk y).1 hm).1).2 q,hm⟩
end
def zcR(L:List Nd)(O:List Int)(S:Int->Option RD)(j:Nat)(x:Int):Option RD:=if x∈O then (if x∈O.take j then stv L x else none) else S x
theorem zso(L:List Nd)(O:List Int)(S:Int->Option RD):mkS S O=zcR L O S 0:=by
 funext x;unfold mkS zcR;simp
def zdo(L:List Nd)(P:List Int)(least e:Int):Prop:=(e=0/\∀x∈P,(zcd L x).2=0)∨(least∈P/\(zcd L least).2=e/\e≠0/\∀x∈P,(zcd L x).2≠0->least<=x)
theorem zsp{least:Int}(h:zdo L P least e)(hx:(zcd L x).2=0):zdo L (P++[x]) least e:=by
 rcases h with ⟨h2,h3⟩ | ⟨h1,h2,h3,h4⟩
 ·refine .inl ⟨h2,λz hz=> ?_⟩;rcases mem_append.1 hz with q | q
  ·exact h3 z q
  ·rw[mem_singleton.1 q];exact hx
 ·refine .inr ⟨mem_append_left _ h1,h2,h3,λz hz hf=> ?_⟩;rcases mem_append.1 hz with q | q
  ·exact h4 z q hf
  ·rw[mem_singleton.1 q]at hf;exact absurd hx hf
theorem zii{least e':Int}(h:zdo L P least e)(hx:(zcd L x).2=e')(he:e'≠0)(hc:e=0∨x<least):zdo L (P++[x]) x e':=by
 refine .inr ⟨mem_append_right _ (mem_singleton.2 rfl),hx,he,λz hz hf=> ?_⟩;rcases mem_append.1 hz with q | q
 ·rcases h with ⟨h2,h3⟩ | ⟨h1,h2,h3,h4⟩
  ·exact absurd (h3 z q) hf
  ·have:=h4 z q hf;rcases hc with c | c
   ·exact absurd c h3
   ·omega
 ·rw[mem_singleton.1 q];exact Int.le_refl _
theorem zo9{least:Int}(h:zdo L P least e)(he:e≠0)(hc:¬x<least):zdo L (P++[x]) least e:=by
 rcases h with ⟨h2,h3⟩ | ⟨h1,h2,h3,h4⟩
 ·exact absurd h2 he
 ·refine .inr ⟨mem_append_left _ h1,h2,h3,λz hz hf=> ?_⟩;rcases mem_append.1 hz with q | q
  ·exact h4 z q hf
  ·rw[mem_singleton.1 q];omega
section
variable {D:FD} {p:Wp}
theorem DOk.still(hD:DOk D){x:Int}(hx:x∉zah D):(zcd D.L x).2=0:=by
 cases e:elF Nd.id D.L x with
 | none=>rw[zg6 e]
 | some n=>
  by_cases hb:D.begun=true
  ·obtain⟨s,hs,_⟩:=hD.st hb x (by rw[e];rfl) hx;rw[hs]
  ·refine absurd ((zbj hD.wf).2 ⟨x,?_,.inl rfl⟩) hx;unfold zbT;rw[if_neg hb,zbg,e];rfl
theorem zsq(hD:DOk D){least e:Int}(h:zdo D.L (zah D) least e):e=zey D:=by
 have ha:=zkd hD.nod hD.wf hD.nn;have hin:∀x,(zcd D.L x).2≠0->x∈zah D/\x∈zbA D.L:=λx hx=>by
  refine⟨?_,?_⟩
  ·by_cases c:x∈zah D
   ·exact c
   ·exact absurd (hD.still c) hx
  ·rw[zeT hD.wf]
   cases e:elF Nd.id D.L x with
   | some n=>rfl
   | none=>rw[zg6 e]at hx;exact absurd rfl hx
 show e=(zpk D.L).e;rcases h with ⟨h2,h3⟩ | ⟨h1,h2,h3,h4⟩
 ·rcases ha with ⟨_,a2,_⟩ | ⟨a1,a2,a3,_⟩
  ·rw[h2,a2]
  ·have hf:(zcd D.L (zpk D.L).least).2≠0:=by rw[a2];exact a3
   exact absurd (h3 _ (hin _ hf).1) hf
 ·have Kw:(zcd D.L least).2≠0:=by rw[h2];exact h3
  rcases ha with ⟨_,a2,a3⟩ | ⟨a1,a2,a3,a4⟩
  ·exact absurd (a3 _ (hin _ Kw).2) Kw
  ·have CE:(zcd D.L (zpk D.L).least).2≠0:=by rw[a2];exact a3
   have k1:=a4 _ (hin _ Kw).2 Kw;have k2:=h4 _ (hin _ CE).1 CE;have:least=(zpk D.L).least:=om;rw[<-h2,<-a2,this]
theorem zxO(H8:∀n∈L,okM n.pl=true):∀ {l:List Int} {x:Int} {s:Stt},(zdg L l x).1=some s->okM s.wo=true
 | [],x,s,h=>by
  unfold zdg at h
  cases e:elF Nd.id L x with
  | none=>rw[e]at h;cases h
  | some n=>
   rw[e]at h;injection h with h;rw[<-h];exact H8 n (zbZ e).2
 | y::l,x,s,h=>by
  unfold zdg at h
  cases e:elF Nd.id L x with
  | none=>rw[e]at h;cases h
  | some n=>
   rw[e]at h
   cases q:(zdg L l y).1 with
   | none=>simp only[q]at h;cases h
   | some u=>
    simp only[q]at h
    by_cases c:16<l.length+2
    ·rw[if_pos c]at h;cases h
    ·rw[if_neg c]at h
     by_cases d:zaE u.wo n.pl=0
     ·rw[if_pos d]at h;injection h with h;rw[<-h];exact zsU _ _
     ·rw[if_neg d]at h;cases h
theorem zzj(hD:DOk D){x:Int}{u:RD}(h:stv D.L x=some u):okM u.1.wo=true/\u.2=(abv (zaj D.L) x).length+1:=by
 unfold stv at h
 cases q:(zcd D.L x).1 with
 | none=>rw[q]at h;cases h
 | some s=>
  rw[q]at h;injection h with h;rw[<-h];exact⟨zxO hD.ok q,rfl⟩
theorem LIf.reach(hD:DOk D)(h:LIf D p){j:Nat}{x:Int}(hx:(zah D)[j]? =some x):
  ∃nd,p.N x=some nd/\okM nd.1=true/\(∀u,zcR D.L (zah D) p.S j (zcf p.T x)=some u->okM u.1.wo=true/\u.2<=D.L.length+1)/\
   znU nd (p.N (zcf p.T x)).isSome (zcR D.L (zah D) p.S j (zcf p.T x)) x=(stv D.L x,(zcd D.L x).2)/\zxK (zcR D.L (zah D) p.S j) x (stv D.L x)=zcR D.L (zah D) p.S (j+1):=by
 have nB:=mem_of_getElem? hx;have QF:=zbn hD.wf nB;obtain⟨n,en⟩:=Option.isSome_iff_exists.1 QF;have hid:=(zbZ en).1;have hst:∀y,(elF Nd.id D.L y).isSome=true->y∉zah D->p.S y=stv D.L y:=λy hy ER=>by
  by_cases hb:D.begun=true
  ·exact h.sts hb y hy ER
  ·refine absurd ((zbj hD.wf).2 ⟨y,?_,.inl rfl⟩) ER;unfold zbT;rw[if_neg hb];exact zbg.2 hy
 have Ef:∀y,elF Nd.id D.L y=none->zcR D.L (zah D) p.S j y=none:=λy hy=>by
  unfold zcR;rw[if_neg (λc=>by have:=zbn hD.wf c;rw[hy]at this;cases this)];exact h.non y hy
 have ku:∀y,(abv (zaj D.L) y).length<=D.L.length:=λy=>Nat.le_trans (zlw hD.wf y) (zjV _);have Eg:∀y u,zcR D.L (zah D) p.S j y=some u->okM u.1.wo=true/\u.2<=D.L.length+1:=λy u hu=>by
  have vn:(elF Nd.id D.L y).isSome=true:=by
   cases e:elF Nd.id D.L y with
   | some n=>rfl
   | none=>rw[Ef y e]at hu;cases hu
  have hs:stv D.L y=some u:=by
   unfold zcR at hu
   by_cases c:y∈zah D
   ·rw[if_pos c]at hu
    by_cases d:y∈(zah D).take j
    ·rw[if_pos d]at hu;exact hu
    ·rw[if_neg d]at hu;cases hu
   ·rw[if_neg c]at hu;rw[<-hst y vn c];exact hu
  obtain⟨k1,k2⟩:=zzj hD hs;have:=ku y;exact⟨k1,om⟩
 have V7:x∉(zah D).take j:=ztF (ziQ hD.wf _) hx;have eA:zxK (zcR D.L (zah D) p.S j) x (stv D.L x)=zcR D.L (zah D) p.S (j+1):=by
  have key:∀y,zcR D.L (zah D) p.S (j+1) y=if y=x then stv D.L x else zcR D.L (zah D) p.S j y:=λy=>by
   unfold zcR;rw[take_add_one,hx]
   by_cases c:y=x
   ·rw[if_pos c,c,if_pos nB,if_pos (by simp)]
   ·rw[if_neg c]
    by_cases d:y∈zah D
    ·rw[if_pos d,if_pos d]
     by_cases f:y∈(zah D).take j
     ·rw[if_pos f,if_pos (mem_append_left _ f)]
     ·rw[if_neg f,if_neg (λk=>(mem_append.1 k).elim f (λk=>c (by simpa using k)))]
    ·rw[if_neg d,if_neg d]
  funext y;rw[key]
  cases q:stv D.L x with
  | none=>
   show zcR D.L (zah D) p.S j y=_
   by_cases c:y=x
   ·rw[if_pos c,c];unfold zcR;rw[if_pos nB,if_neg V7]
   ·rw[if_neg c]
  | some v=>rfl
 refine⟨(n.pl,n.hid),by rw[h.nod,en];rfl,hD.ok n (zbZ en).2,λu hu=>Eg _ u hu,?_,eA⟩;have vM:zcf p.T x=if 0<=n.par then n.par else -1:=by
  unfold zcf;rw[h.par,zdx hD.nod en]
  by_cases c:0<=n.par
  ·rw[if_pos c,if_pos c];rfl
  ·rw[if_neg c,if_neg c];rfl
 have Eh:elF Nd.id D.L (-1)=none:=zcY.2 (λm hm e=>by have:=hD.nn m hm;omega);rw[h.nodS]
 by_cases ht:(elF Nd.id D.L (zcf p.T x)).isSome=true
 ·have c:0<=n.par:=by
   by_cases c:0<=n.par
   ·exact c
   ·rw[vM,if_neg c,Eh]at ht;cases ht
  rw[if_pos c]at vM;rw[vM]at ht ⊢;have hh:zaq D.L x=n.par:=by rw[zbm en,if_neg (λq=>q.elim (λq=>om) (λq=>zd6.1 q ht))]
  have hp:zak (zaj D.L) x=some n.par:=by rw[zav hD.nod,hh,if_pos c]
  have tM:zcR D.L (zah D) p.S j n.par=stv D.L n.par:=by
   unfold zcR;have q0:n.par∈(zah D).take j∨n.par∉zah D:=zvk hD.wf hx hp;rcases q0 with q | q
   ·rw[if_pos (mem_of_mem_take q),if_pos q]
   ·rw[if_neg q];exact hst _ ht q
  have hf:=zlN hD.nod hD.wf en om;rw[hh]at hf;have hab:(abv (zaj D.L) x).length=(abv (zaj D.L) n.par).length+1:=by rw[za0 hD.wf hp,length_cons]
  rw[tM,ht];unfold znU;rw[if_neg (by simp)]
  cases q:(zcd D.L n.par).1 with
  | none=>
   rw[q]at hf;have e1:stv D.L n.par=none:=by unfold stv;rw[q];rfl
   have e2:stv D.L x=none:=by unfold stv;rw[hf];rfl
   rw[e1,e2,hf]
  | some s=>
   rw[q]at hf;simp only at hf;have e1:stv D.L n.par=some (s,(abv (zaj D.L) n.par).length+1):=by unfold stv;rw[q];rfl
   rw[e1];show (if 16<=(abv (zaj D.L) n.par).length+1 then _ else _)=_
   by_cases d:16<=(abv (zaj D.L) n.par).length+1
   ·rw[if_pos d];rw[if_pos om]at hf;have e2:stv D.L x=none:=by unfold stv;rw[hf];rfl
    rw[e2,hf]
   ·rw[if_neg d];rw[if_neg om]at hf
    by_cases z:zaE s.wo n.pl=0
    ·rw[if_pos z]at hf ⊢;have e2:stv D.L x=some (⟨n.id,zbB s.wo n.pl,s.sh && !n.hid⟩,(abv (zaj D.L) x).length+1):=by unfold stv;rw[hf];rfl
     rw[e2,hf,hid,hab]
    ·rw[if_neg z]at hf ⊢;have e2:stv D.L x=none:=by unfold stv;rw[hf];rfl
     rw[e2,hf]
 ·have hh:zaq D.L x<0:=by
   rw[zbm en]
   by_cases c:n.par<0
   ·rw[if_pos (.inl c)];omega
   ·rw[vM,if_pos om]at ht;rw[if_pos (.inr (zd6.2 ht))];omega
  have hf:=zg8 hD.nod hD.wf en hh;have hp:zak (zaj D.L) x=none:=by rw[zav hD.nod,if_neg om]
  have e2:stv D.L x=some (⟨n.id,n.pl,!n.hid⟩,1):=by unfold stv;rw[hf,zeM hD.wf hp];rfl
  have e3:(elF Nd.id D.L (zcf p.T x)).isSome=false:=by cases q:(elF Nd.id D.L (zcf p.T x)).isSome with | false=>rfl | true=>exact absurd q ht
  rw[e3,e2,hf];unfold znU;rw[if_pos rfl,hid]
end
theorem LIf.parR{p:Wp}(hD:DOk D)(h:LIf D p){x y:Int}(hp:zak p.T x=some y):Rg y:=by
 rw[h.par]at hp;obtain⟨n,hn,_,_,e⟩:=zhr.1 (zbo hp);rw[<-e];exact (hD.rg n hn).2
theorem LIf.parMR{p:Wp}(hD:DOk D)(h:LIf D p)(x:Int):Rg (zcf p.T x):=by
 unfold zcf
 cases e:zak p.T x with
 | none=>exact⟨by show _<=(-1:Int);omega,by show (-1:Int)<=_;omega⟩
 | some y=>exact h.parR hD e
theorem zsr{p:Wp}(hD:DOk D)(h:LIf D p)(j:Nat)(y:Int)(hy:(zcR D.L (zah D) p.S j y).isSome=true):y∈D.L.map Nd.id:=by
 rw[<-ziW]
 cases e:elF Nd.id D.L y with
 | some n=>rfl
 | none=>
  unfold zcR at hy;rw[if_neg (λc=>by have:=zbn hD.wf c;rw[e]at this;cases this),h.non y e]at hy
  cases hy
theorem znV(hD:DOk D):Rgs (zah D):=λx hx=>by
 obtain⟨n,hn,e⟩:=zaM.1 (zbn hD.wf hx);rw[<-e];exact (hD.rg n hn).1
section
variable {w:World} {p:Wp} {D:FD}
theorem zkR(hD:DOk D)(hL:LIf D p)(h:LW w p)(Dq:D.L.length<=900){a:Option Addr}{n cap:Nat}(row:Row w a n (zah D))(ha:Aw (zba p) a n):
  Calls prog 131 #[.pointer (some ⟨p.g,0,none⟩),.slice a n cap] w λe w'=>e= .returned (.int .i64 (zey D))/\ChL w w' p (wS p (zcR D.L (zah D) p.S n)):=by
 have hn:n<=900:=by have:=zdU hD.wf;have:=row.1;omega
 have Hy:=row.2.1;have Kb:=kA row.1
 have Hu:Hid (ChL w w p (wS p (mkS p.S ((zah D).take 0)))):=kA (by
  have e:wS p (mkS p.S ((zah D).take 0))=p:=by
   unfold wS;rw[take_zero,show mkS p.S []=p.S from by funext x;unfold mkS;rw[if_neg (by simp)]]
  rw[e]
  exact ChL.still h (Below.refl _ _))
 have hJ:Hid (∀u q,ChL w u p q->Row u a n (zah D)):=kA (λu q k=>zbI row ha k.2.1)
 have KV:Hid (∀u j z,(zah D)[j]? =some z->ChL w u p (wS p (mkS p.S ((zah D).take j)))->u.cell? ⟨p.g,2,none⟩=some (.map (some p.gs))/\p.g<u.heap.size/\∃w1,(∀ty,(Builtin.delete_ #[198,81] ty #[.map (some p.gs),.int .i64 z]).run prog u= .ok (.tuple #[]) w1)/\ChL w w1 p (wS p (mkS p.S ((zah D).take (j+1))))):=kA (λu j z hz k=>by
  obtain⟨w1,r1,m1,g1⟩:=k.1.sts.del (znV hD z (mem_of_getElem? hz));refine⟨k.1.cells.2.2.1,k.1.cells.2.2.2.2.2,w1,r1,?_⟩;rw[znT hz]
  exact k.join (k.1.setS m1 g1))
 have dF:Hid (∀u j z,(zah D)[j]? =some z->ChL w u p (wS p (zcR D.L (zah D) p.S j))->Calls prog 200 #[.pointer (some ⟨p.g,0,none⟩),.int .i64 z] u λe w'=>e= .returned (.int .i64 (zcd D.L z).2)/\ChL w w' p (wS p (zcR D.L (zah D) p.S (j+1)))):=kA (λu j z hz k=>by
  obtain⟨nd,h1,h2,h3,h4,h5⟩:=hL.reach hD hz;have hc:=zmn (p:=wS p (zcR D.L (zah D) p.S j)) k.1 (znV hD z (mem_of_getElem? hz)) nd h1 h2 (hL.parMR hD z) (λv hv=>by have:=h3 v hv;exact⟨this.1,om⟩) (D.L.map Nd.id) (zsr hD hL j) (by rw[length_map];omega);refine hc.mono ?_;rintro e w' ⟨rfl,Hg⟩;have nj:znU nd ((wS p (zcR D.L (zah D) p.S j)).N (zcf (wS p (zcR D.L (zah D) p.S j)).T z)).isSome ((wS p (zcR D.L (zah D) p.S j)).S (zcf (wS p (zcR D.L (zah D) p.S j)).T z)) z=(stv D.L z,(zcd D.L z).2):=h4;rw[nj]at Hg ⊢;refine⟨rfl,?_⟩;rw[<-h5]
  exact k.join Hg)
 have dV:Hid (mkS p.S (zah D)=zcR D.L (zah D) p.S 0):=kA (zso _ _ _);have kT:Hid (∀least e,zdo D.L (zah D) least e->e=zey D):=kA (λleast e q=>zsq hD q);obtain⟨O,hO⟩:∃O,O=zah D:=⟨_,rfl⟩;rw[<-hO]at Kb Hu hJ KV dF dV kT ⊢;obtain⟨L,tY⟩:∃L,L=D.L:=⟨_,rfl⟩;rw[<-tY]at dF dV kT ⊢;obtain⟨g,hge⟩:∃g,g=p.g:=⟨_,rfl⟩;rw[<-hge]at KV dF ⊢;obtain⟨gs,xl⟩:∃gs,gs=p.gs:=⟨_,rfl⟩;rw[<-xl]at KV;obtain⟨R,hR⟩:∃R:Nat->Int->Option RD,R=zcR L O p.S:=⟨_,rfl⟩;rw[<-hR]at dF dV ⊢;obtain⟨RE,tZ⟩:∃RE,RE=zey D:=⟨_,rfl⟩;rw[<-tZ]at kT ⊢;clear hD hL h Dq row ha hO tY hge xl hR tZ;go_enter func131,ntmps131;go_wp2
 go_loopw [6,14] (λ_ i wr=>∃j:Nat,j<=n/\i= .int .i64 j/\ChL w wr p (wS p (mkS p.S (O.take j)))) (λ_ i _=>n - (ivl i).toNat)
 case atStart=>exact⟨0,om,rfl,Hu⟩
 case round=>
  clear Hu;obtain⟨j,hj,rfl,Hg⟩:=hrel;have kO:=hJ.out wr _ Hg;have Hw:=kA Hg;clear Hg
  by_cases hlt:j<n
  ·obtain⟨b,off,z,rfl,hz,cz⟩:=zch kO hlt;have Ht:=World.block_lt_of_cell? _ _ cz;obtain⟨c2,hg,w1,r1,dG⟩:=KV.out wr j z hz Hw;have Kp:=kA dG;have j0:(0:Int)<=(j:Int):=om;have j1:(j:Int)<(n:Int):=om;clear kO hz dG Hw;go_wp2_with (at_builtin;refine za9 rfl (.tmp 21) (.tmp 22) 198 81 rfl _ _ rfl rfl (r1 _) ?_);go_roundw
   case rel=>exact⟨j+1,om,by go_num,Kp⟩
   case measure=>simp[ivl] <;> omega
  ·obtain rfl:j=n:=om;have e0:O.take j=O:=take_of_length_le (by rw[Kb.out];exact Nat.le_refl _);rw[e0,dV.out]at Hw;have j1:¬(j:Int)<(j:Int):=om;clear e0 kO hlt KV;go_wp2
   go_loopw [7,8,10,11,26] (λv7 v8 _ _ i wx=>∃ (k:Nat) (le fi:Int),k<=j/\i= .int .i64 k/\v7= .int .i64 le/\v8= .int .i64 fi/\zdo L (O.take k) le fi/\ChL w wx p (wS p (R k))) (λ_ _ _ _ i _=>j - (ivl i).toNat)
   case atStart=>exact⟨0,0,0,om,rfl,rfl,rfl,.inl ⟨rfl,λx hx=>by simp at hx⟩,Hw⟩
   case round=>
    clear Hw;obtain⟨k,le,fi,hk,rfl,rfl,rfl,hle,Hg⟩:=hrel;have kO:=hJ.out wr _ Hg;have Ch:=kA hle;have Hw:=kA Hg;clear Hg hle
    by_cases hlt:k<j
    ·obtain⟨b,off,z,rfl,hz,cz⟩:=zch kO hlt;have Ht:=World.block_lt_of_cell? _ _ cz;have HF:=kA (dF wr k z hz Hw);have HT:Hid (O.take (k+1)=O.take k++[z]):=kA (by rw[take_add_one,hz];rfl);obtain⟨E,hE⟩:∃E,E=(zcd L z).2:=⟨_,rfl⟩;rw[<-hE]at HF;have HE:=kA hE.symm;have k0:(0:Int)<=(k:Int):=om;have k1:(k:Int)<(j:Int):=om;clear kO hz Hw hE;go_wp2_with fail;refine HF.mono ?_;rintro e w2 ⟨rfl,Hg⟩;have Kp:=kA Hg;clear Hg HF
     by_cases dI:E=0
     ·subst dI;have dY:Hid (zdo L (O.take (k+1)) le fi):=kA (by rw[HT.out];exact zsp Ch HE);go_wp2;go_roundw
      case rel=>exact⟨k+1,le,fi,om,by go_num,rfl,rfl,dY.out,Kp⟩
      case measure=>simp[ivl] <;> omega
     ·by_cases Yb:fi=0
      ·subst Yb;have dY:Hid (zdo L (O.take (k+1)) z E):=kA (by rw[HT.out];exact zii Ch HE dI (.inl rfl));go_wp2;go_roundw
       case rel=>exact⟨k+1,z,E,om,by go_num,rfl,rfl,dY.out,Kp⟩
       case measure=>simp[ivl] <;> omega
      ·have zV:(fi==0)=false:=by simpa using Yb
       have N0:(E != 0)=true:=by simpa using dI
       by_cases ye:z<le
       ·have dY:Hid (zdo L (O.take (k+1)) z E):=kA (by rw[HT.out];exact zii Ch HE dI (.inr ye));go_wp2;go_roundw
        case rel=>exact⟨k+1,z,E,om,by go_num,rfl,rfl,dY.out,Kp⟩
        case measure=>simp[ivl] <;> omega
       ·have dY:Hid (zdo L (O.take (k+1)) le fi):=kA (by rw[HT.out];exact zo9 Ch Yb ye);have nu:decide (z<le)=false:=decide_eq_false ye;have ny:le<=z:=om;go_wp2;go_roundw
        case rel=>exact⟨k+1,le,fi,om,by go_num,rfl,rfl,dY.out,Kp⟩
        case measure=>simp[ivl] <;> omega
    ·obtain rfl:k=j:=om;have e0:O.take k=O:=take_of_length_le (by rw[Kb.out];exact Nat.le_refl _);rw[e0]at Ch;have HEq:=kA (kT le fi Ch);have k1:¬(k:Int)<(k:Int):=om;clear e0 kO hlt;go_wp2;go_ret;exact⟨by rw[HEq.out] <;> rfl,Hw⟩
theorem zmp(h:LW w p)(hW:WF p.T)(hP:∀x y,zak p.T x=some y->Rg y){x:Int}(hx:Rg x):
  Calls prog 214 #[.pointer (some ⟨p.g,0,none⟩),.int .i64 x] w λe w'=>e= .returned (.bool (zih p.T p.M x))/\Bw w w':=by
 have d9:Hid (∀u z,Bw w u->Rg z->(Instr.lookup 199 (.map (some p.gm)) (.int .i64 z) true).run prog u= .ok (.tuple #[.agg #[],.bool (p.M z).isSome]) u/\u.cell? ⟨p.g,3,none⟩=some (.map (some p.gm))/\u.cell? ⟨p.g,0,none⟩=some (.pointer (some ⟨p.gf,0,none⟩))/\p.g<u.heap.size):=kA (λu z q hz=>⟨(h.keep q).mrk.look hz,(h.keep q).cells.2.2.2.1,(h.keep q).cells.1,(h.keep q).cells.2.2.2.2.2⟩)
 have Do:Hid (∀u z,Bw w u->Rg z->u.cell? ⟨p.g,0,none⟩=some (.pointer (some ⟨p.gf,0,none⟩))/\p.g<u.heap.size/\Calls prog 251 #[.pointer (some ⟨p.gf,0,none⟩),.int .i64 z] u λe w'=>e= .returned (.tuple #[.int .i64 (zjr (zak p.T z)),.bool (zak p.T z).isSome])/\u=w'):=kA (λu z q hz=>⟨(h.keep q).cells.1,(h.keep q).cells.2.2.2.2.2,by
  obtain⟨gp,gc,bl,cp,h1,_⟩:=(h.keep q).fo
  exact zep h1 hz⟩)
 have HN:Hid (∀z,zak p.T z=none->zih p.T p.M z=(p.M z).isSome):=kA (λz e=>zuQ hW e)
 have HS:Hid (∀z y,zak p.T z=some y->zih p.T p.M z=((p.M z).isSome || zih p.T p.M y)/\Rg y/\abM p.T (.int .i64 y)<abM p.T (.int .i64 z)):=kA (λz y e=>⟨zuR hW e,hP z y e,by
  unfold abM;show (abv p.T y).length+1<(abv p.T z).length+1;rw[za0 hW e,length_cons]
  omega⟩)
 have HI:Hid (∀z,(p.M z).isSome=true->zih p.T p.M z=true):=kA (λz e=>by unfold zih;rw[e];rfl);obtain⟨g,hge⟩:∃g,g=p.g:=⟨_,rfl⟩;obtain⟨gf,Xb⟩:∃gf,gf=p.gf:=⟨_,rfl⟩;obtain⟨gm,yG⟩:∃gm,gm=p.gm:=⟨_,rfl⟩;obtain⟨T,hT⟩:∃T,T=p.T:=⟨_,rfl⟩;obtain⟨M,hM⟩:∃M,M=p.M:=⟨_,rfl⟩;rw[<-hge]at d9 Do ⊢;rw[<-Xb]at Do d9;rw[<-yG]at d9;rw[<-hT]at Do HN HS HI ⊢;rw[<-hM]at d9 HN HS HI ⊢;have HX:=kA hx;clear h hW hP hge Xb yG hT hM hx;go_enter func214,ntmps214;go_wp2
 go_loopw [1,5,6,7] (λv1 v5 _ _ wr=>∃ (z:Int) (b:Bool),v1= .int .i64 z/\v5= .bool b/\(b=true->zih T M x=zih T M z/\Rg z)/\(b=false->zih T M x=false)/\Bw w wr) (λv1 v5 _ _ _=>match v5 with | .bool true=>abM T v1 | _=>0)
 case atStart=>exact⟨x,true,rfl,rfl,λ_=>⟨rfl,HX⟩,λc=>(by cases c),Below.refl _ _⟩
 case round=>
  obtain⟨z,b,rfl,rfl,h1,h2,hb⟩:=hrel;have HB:=kA hb;clear hb
  cases b with
  | false=>
   have HR:=kA (h2 rfl);clear h1 h2;go_wp2;go_ret;exact⟨by rw[HR.out] <;> rfl,HB⟩
  | true=>
   obtain⟨he,Ki⟩:=h1 rfl;have HE:=kA he;have HZ:=kA Ki;obtain⟨hl,c3,c0,hg⟩:=d9.out _ z HB Ki;have jR:=kA (HI z);obtain⟨m,hm⟩:∃m,m=(M z).isSome:=⟨_,rfl⟩;rw[<-hm]at hl jR;have HM:=kA hm;clear h1 h2 he Ki hm;have Hf:Bw wr (wr.alloc (.cells #[] 220)):=zaa _ _;have He:=kA (zad HB Hf);clear Hf;go_upto_region 5 with fail;refine fin (λW=>Bw w W) He ?_;rintro W Kq;have da:=kA Kq;clear Kq hl c3 c0 hg He HB
   cases m with
   | true=>
    have HR:=kA (HE.trans (jR rfl));go_wp2;go_ret;exact⟨by rw[HR.out] <;> rfl,da⟩
   | false=>
    obtain⟨c0,hg,hp⟩:=Do.out W z da HZ;have HP:=kA hp;clear hp
    cases C9:zak T z with
    | none=>
     have HR:=kA (HE.trans ((HN z C9).trans HM.symm));rw[C9]at HP;clear C9;go_wp2_with fail;refine HP.mono ?_;rintro e w1 ⟨rfl,rfl⟩;go_wp2;go_roundw
     case rel=>exact⟨0,false,rfl,rfl,λc=>(by cases c),λ_=>HR.out,da⟩
     case measure=>exact succ_pos _
    | some y=>
     obtain⟨k1,k2,k3⟩:=HS.out z y C9;rw[<-HM.out,Bool.false_or]at k1;have HR:=kA (HE.trans k1);have HY:=kA k2;have yy:=kA k3;rw[C9]at HP;clear C9 k1 k2 k3;go_wp2_with fail;refine HP.mono ?_;rintro e w1 ⟨rfl,rfl⟩;go_wp2;go_roundw
     case rel=>exact⟨y,true,rfl,rfl,λ_=>⟨HR,HY⟩,λc=>(by cases c),da⟩
     case measure=>exact yy
def stL(p:Wp)(x:Int):RD × Bool:=if zih p.T p.M x=true then (zRf,false) else ((p.S x).getD zRf,(p.S x).isSome)
theorem zzk(s:Stt):cFs s=lM s.wo++[.bool s.sh]:=rfl
theorem zxP(s:Stt):∀u∈cFs s,u.oneCell'=true:=λu hu=>by
 rw[zzk]at hu;rcases mem_append.1 hu with h | h
 ·exact zm4 _ u h
 ·rw[mem_singleton.1 h];rfl
structure FX (X:List Value):Prop where
 len:X.length=13
 size:(prog.info? 228).map (·.size)=some X.length
 sizea:(prog.info? 228).map (·.size)=some X.toArray.size
 onea:X.toArray.all (·.oneCell')=true
theorem zvK(s:Stt):FX (cFs s):=⟨rfl,oM,oM,all_oneCell_toArray (zxP s)⟩
theorem zuS(W:World):(Instr.build 228 #[]).run prog W= .ok (.agg (cFs zSt).toArray) W:=oM
end
section
variable {w:World} {p:Wp}
theorem zmq(h:LW w p)(hW:WF p.T)(hP:∀x y,zak p.T x=some y->Rg y){x:Int}(hx:Rg x):
  Calls prog 137 #[.pointer (some ⟨p.g,0,none⟩),.int .i64 x] w λe w'=>∃Y,e= .returned (.tuple #[.agg (toArray Y),.bool (stL p x).2])/\Y=cFs (stL p x).1.1/\Bw w w':=by
 have Jz:Hid (∀u,Bw w u->Calls prog 214 #[.pointer (some ⟨p.g,0,none⟩),.int .i64 x] u λe w'=>e= .returned (.bool (zih p.T p.M x))/\Bw u w'):=kA (λu q=>zmp (h.keep q) hW hP hx);have DJ:Hid (∀u,Bw w u->u.cell? ⟨p.g,2,none⟩=some (.map (some p.gs))/\p.g<u.heap.size/\(Instr.lookup 198 (.map (some p.gs)) (.int .i64 x) true).run prog u= .ok (.tuple #[.agg (cSd ((p.S x).getD zRf)).toArray,.bool (p.S x).isSome]) u):=kA (λu q=>⟨(h.keep q).cells.2.2.1,(h.keep q).cells.2.2.2.2.2,(h.keep q).sts.look hx⟩);have hst:stL p x=if zih p.T p.M x=true then (zRf,false) else ((p.S x).getD zRf,(p.S x).isSome):=rfl
 obtain⟨dt,t6⟩:∃dt,dt=zih p.T p.M x:=⟨_,rfl⟩;obtain⟨v,hv⟩:∃v,v=(p.S x).getD zRf:=⟨_,rfl⟩;obtain⟨os,Ys⟩:∃os,os=(p.S x).isSome:=⟨_,rfl⟩;obtain⟨g,hge⟩:∃g,g=p.g:=⟨_,rfl⟩;obtain⟨gs,xl⟩:∃gs,gs=p.gs:=⟨_,rfl⟩;rw[<-t6]at Jz hst;rw[<-hv]at DJ hst;rw[<-Ys]at DJ hst;rw[<-hge]at Jz DJ ⊢;rw[<-xl]at DJ;obtain⟨sl,hsl⟩:∃sl,sl=stL p x:=⟨_,rfl⟩;rw[<-hsl]at hst ⊢;have Jr:=kA hst;have KZ:=kA (Blk.new w 228 (cFs zSt).toArray);have Ha:Hid (Bw w (w.alloc (.cells (cFs zSt).toArray 228))):=kA (zaa _ _);have HZ:=kA (zvK zSt);have Qk:=kA zuS;have HX:=kA (zvI v);have HF:=kA (zvK v.1);have xm:Hid (∀W gg,Blk W gg 299 (cSd v).toArray->W.rangeAt gg 0 (cFs v.1)):=kA (λW gg k=>zaF k 0 13);obtain⟨XZ,CP⟩:∃XZ,XZ=cFs zSt:=⟨_,rfl⟩;obtain⟨XR,Xt⟩:∃XR,XR=cSd v:=⟨_,rfl⟩;obtain⟨XF,YL⟩:∃XF,XF=cFs v.1:=⟨_,rfl⟩;rw[<-Xt]at DJ HX xm;rw[<-YL]at HF xm;have Yn:=kA CP;have Jn:=kA YL;clear h hW hP hx t6 hv Ys hge xl hsl hst Xt YL;go_enter func137,ntmps137;go_upto_region 1 with fail;refine fin (λW=>Blk W w.heap.size 228 (cFs zSt).toArray/\Bw w W) ⟨KZ,Ha⟩ ?_;clear KZ Ha;rintro W ⟨kz,hb⟩;rw[<-CP]at kz HZ Qk;have KZ:=kA kz;have HB:=kA hb;clear kz hb CP;go_wp2_with fail;refine (Jz _ HB).mono ?_;rintro e w1 ⟨rfl,b1⟩;replace KZ:=kA (KZ.keep b1);replace HB:=kA (zad HB b1);obtain⟨c2,hg,hl⟩:=DJ.out w1 HB;have Ka:Hid (w1.there w.heap.size 0 XZ.toArray.size):=kA (zae KZ (by rw[size_toArray];omega));have L4:Hid (Blk (w1.setCells w.heap.size 0 XZ) w.heap.size 228 XZ.toArray):=kA (zal KZ rfl);have z4:=KZ.lt;clear b1 Jz DJ
 cases dt with
 | true=>
  have Yr:Hid (sl=(zRf,false)):=kA (by rw[Jr.out,if_pos rfl]);go_wp2_with (first | refine zjW rfl 228 rfl (.agg XZ.toArray) Qk ?_ | refine wpList_store_mid rfl 228 (.tmp 4) (.tmp 15) rfl w.heap.size 0 XZ.toArray rfl rfl Ka HZ.sizea HZ.onea ?_)
  refine fin (λW=>Blk W w.heap.size 228 XZ.toArray/\Bw w W) ⟨L4,zab _ HB (Nat.le_refl _)⟩ ?_;rintro W2 ⟨kr,hb⟩;have hl:=run_loadVar_mid W2 w.heap.size 0 228 XZ _ (zac kr) underlying228 rfl HZ.size
  try simp only[Go.Act.put,setIfInBounds_toArray,set_cons_zero,set_cons_succ]
  exact bodyPost_ret (v:= .tuple #[.agg XZ.toArray,.bool false]) (zan results137 rfl rfl hl) rfl ⟨XZ,by rw[Yr.out],by rw[Yr.out,Yn.out];rfl,hb⟩
 | false=>
  have Yr:Hid (sl=(v,os)):=kA (by rw[Jr.out,if_neg (by simp)]);have Hf:Bw w1 (w1.alloc (.cells (cSd zRf).toArray 299)):=zaa _ _;have Ql:Hid ((w1.alloc (.cells (cSd zRf).toArray 299)).there w1.heap.size 0 XR.toArray.size):=kA (zae (Blk.new w1 _ _) (by rw[size_toArray,HX.len];exact Nat.le_refl 14));have H9:Bw w1 ((w1.alloc (.cells (cSd zRf).toArray 299)).setCells w1.heap.size 0 XR):=zab XR Hf (Nat.le_refl _);have Qm:Hid (Blk ((w1.alloc (.cells (cSd zRf).toArray 299)).setCells w1.heap.size 0 XR) w1.heap.size 299 XR.toArray/\Blk ((w1.alloc (.cells (cSd zRf).toArray 299)).setCells w1.heap.size 0 XR) w.heap.size 228 (cFs zSt).toArray/\Bw w ((w1.alloc (.cells (cSd zRf).toArray 299)).setCells w1.heap.size 0 XR)):=kA ⟨zal (Blk.new w1 _ _) (by rw[HX.len];rfl),by have:=KZ.keep H9;rw[Yn.out]at this;exact this,zad HB H9⟩;have Ho:w1.heap.size≠w.heap.size:=om;clear Hf H9;go_upto_region 4 with (refine wpList_store_mid rfl 299 (.tmp 6) (.tmp 23) rfl w1.heap.size 0 XR.toArray rfl rfl Ql HX.sizea HX.onea ?_);refine fin (λW=>Blk W w1.heap.size 299 XR.toArray/\Blk W w.heap.size 228 (cFs zSt).toArray/\Bw w W) Qm ?_;clear Qm Ql Ka L4 hl c2 hg z4;obtain⟨g6,DZ⟩:∃g6,g6=w1.heap.size:=⟨_,rfl⟩;rw[<-DZ]at Ho ⊢;rintro W2 ⟨k6,k4,Kh⟩;have Y7:=kA (xm W2 g6 k6);have Ka:Hid (W2.there w.heap.size 0 XF.toArray.size):=kA (zae k4 (by have:=HF.len;rw[size_toArray,this];exact Nat.le_refl 13));have L4:Hid (Blk (W2.setCells w.heap.size 0 XF) w.heap.size 228 XF.toArray):=kA (zal k4 (by rw[HF.len];rfl));have He:=kA Kh;have z6:=k6.lt;have z4:=k4.lt;clear k6 k4 Kh DZ HB KZ;go_wp2_with (first | refine wpList_load_mid rfl 228 (.tmp 25) rfl g6 0 rfl XF _ Y7 underlying228 rfl HF.size ?_ | refine wpList_store_mid rfl 228 (.tmp 4) (.tmp 26) rfl w.heap.size 0 XF.toArray rfl rfl Ka HF.sizea HF.onea ?_)
  refine fin (λW=>Blk W w.heap.size 228 XF.toArray/\Bw w W) ⟨L4,zab _ He (Nat.le_refl _)⟩ ?_;rintro W3 ⟨kr,hb⟩;have hl:=run_loadVar_mid W3 w.heap.size 0 228 XF _ (zac kr) underlying228 rfl HF.size
  try simp only[Go.Act.put,setIfInBounds_toArray,set_cons_zero,set_cons_succ]
  exact bodyPost_ret (v:= .tuple #[.agg XF.toArray,.bool os]) (zan results137 rfl rfl hl) rfl ⟨XF,by rw[Yr.out],by rw[Yr.out,Jn.out],hb⟩
end
theorem zmr{ops:Array Oper}{rest:List Oper}{op:Oper}{a:Go.Act}{Q:Exit->Go.Act->World->Prop}(hw:Region.wanted op (yielded ops a.tmps)=true)(t e:TypeId)(x:Operand)(ho:op.op= .buildSlice t 1 #[(0,x)])(X:List Value)(hx:a.eval x= .agg X.toArray)
  (Hi:∀W,(Instr.buildSlice t 1 #[(0,.agg X.toArray)]).run prog W= .ok (.slice (some ⟨W.heap.size,0,none⟩) 1 1) (W.alloc (.cells X.toArray e)))
  (h:wpList prog ops Q rest (a.put op.dst (.slice (some ⟨w.heap.size,0,none⟩) 1 1)) (w.alloc (.cells X.toArray e))):wpList prog ops Q (op::rest) a w:=by
 rw[wpList,if_pos hw];refine .inl ?_;unfold Oper.wp execOp;simp only[ho];simp[hx,Hi];exact h
theorem zxQ(A:Nat->Int)(W:World):(Instr.buildSlice 326 1 #[(0,.agg (lM A).toArray)]).run prog W= .ok (.slice (some ⟨W.heap.size,0,none⟩) 1 1) (W.alloc (.cells (lM A).toArray 46)):=oM
theorem zzl{g:Nat}{A:Nat->Int}(h:Blk w g 46 (lM A).toArray):MRow w (some ⟨g,0,none⟩) 1 [A]:=by
 have h2:Blk w g 46 #[.int .i64 (A 0),.int .i64 (A 1),.int .i64 (A 2),.int .i64 (A 3),.int .i64 (A 4),.int .i64 (A 5),.int .i64 (A 6),.int .i64 (A 7),.int .i64 (A 8),.int .i64 (A 9),.int .i64 (A 10),.int .i64 (A 11)]:=h;refine⟨rfl,om,.inr ⟨_,_,rfl,λi hi j hj=> ?_⟩⟩;obtain rfl:i=0:=om;have:=h2.at12 hj;rw[Nat.zero_mul,Nat.add_zero,Nat.zero_add];exact this
theorem zpa(A:Nat->Int)(w:World)(g:Nat)(k:Blk w g 46 (lM A).toArray):Calls prog 188 #[.slice (some ⟨g,0,none⟩) 1 1] w λe w'=>e= .returned (.bool (okM A))/\Bw w w':=
 zf3 (Ms:=[A]) (by unfold zbG;simp) (zzl k)
structure NF (X:List Value):Prop where
 len:X.length=15
 size:(prog.info? 205).map (·.size)=some X.length
 sizea:(prog.info? 205).map (·.size)=some X.toArray.size
 onea:X.toArray.all (·.oneCell')=true
theorem zvL(n:Nd):NF (cNd n):=⟨rfl,oM,oM,all_oneCell_toArray (zlF n)⟩
theorem zms(a:Option Addr)(n cap:Nat)(l:List Nd)(w:World)(row:zyB w a n l):
  Calls prog 122 #[.slice a n cap] w λe w'=>e= .returned (.bool (!l.any zhA))/\Bw w w':=by
 have Hy:=row.2.1;have HL:=kA row.1;have hJ:Hid (∀u,Bw w u->zyB u a n l):=kA (λu q=>row.keep q);clear row;go_enter func122,ntmps122;go_wp2
 go_loopw [4,7] (λ_ i wr=>∃j:Nat,j<=n/\i= .int .i64 j/\(l.take j).any zhA=false/\Bw w wr) (λ_ i _=>n - (ivl i).toNat)
 case atStart=>exact⟨0,om,rfl,by simp,Below.refl _ _⟩
 case round=>
  obtain⟨j,hj,rfl,Xd,hb⟩:=hrel;have zG:=kA Xd;have HB:=kA hb;have kO:=hJ.out wr hb;clear Xd hb
  by_cases hlt:j<n
  ·obtain⟨b,off,md,rfl,Ht,hm,hr⟩:=kO.at_ hlt;have Dj:=kA hr;have nz:=kA (zts (p:=zhA) hm);have xS:Hid (zhA md=true->l.any zhA=true):=kA (λhp=>zqT hm hp);have Kl:zhA md=(!okM md.pl || decide (md.id<0)):=rfl;have XJ:=kA (zvL md);have dn:=kA (zjX md.pl);have dM:Hid (∀W gg,Blk W gg 46 (lM md.pl).toArray->Calls prog 188 #[.slice (some ⟨gg,0,none⟩) 1 1] W λe w'=>e= .returned (.bool (okM md.pl))/\Bw W w'):=kA (λW gg k=>zpa md.pl W gg k);have dw:Hid (∀W,(Instr.buildSlice 326 1 #[(0,.agg (lM md.pl).toArray)]).run prog W= .ok (.slice (some ⟨W.heap.size,0,none⟩) 1 1) (W.alloc (.cells (lM md.pl).toArray 46))):=kA (zxQ md.pl);have Zb:Hid (∀W gg,Blk W gg 205 (cNd md).toArray->W.rangeAt gg 2 (lM md.pl)/\W.cell? ⟨gg,0,none⟩=some (.int .i64 md.id)):=kA (λW gg k=>⟨zaF k 2 12,k.cell 0⟩);have Hf:Bw wr (wr.alloc (.cells (cNd zNd).toArray 205)):=zaa _ _;have H9:Bw wr ((wr.alloc (.cells (cNd zNd).toArray 205)).setCells wr.heap.size 0 (cNd md)):=zab (cNd md) Hf (Nat.le_refl _);have ki:Hid ((wr.alloc (.cells (cNd zNd).toArray 205)).there wr.heap.size 0 (cNd md).toArray.size):=kA (zae (Blk.new wr _ _) (by rw[size_toArray];exact Nat.le_refl 15));have HK:Hid (Blk ((wr.alloc (.cells (cNd zNd).toArray 205)).setCells wr.heap.size 0 (cNd md)) wr.heap.size 205 (cNd md).toArray/\Bw w ((wr.alloc (.cells (cNd zNd).toArray 205)).setCells wr.heap.size 0 (cNd md))):=kA ⟨zal (Blk.new wr _ _) rfl,zad HB H9⟩;clear Hf H9;obtain⟨XM,Yg⟩:∃XM,XM=cNd md:=⟨_,rfl⟩;obtain⟨MM,t7⟩:∃MM,MM=lM md.pl:=⟨_,rfl⟩;obtain⟨ok,H8⟩:∃ok,ok=okM md.pl:=⟨_,rfl⟩;obtain⟨y,hy⟩:∃y,y=md.id:=⟨_,rfl⟩;rw[<-Yg]at Dj XJ Zb HK ki;rw[<-t7]at dn dM dw Zb;rw[<-H8]at dM Kl;rw[<-hy]at Zb Kl;have Ko:=kA Kl;have j0:(0:Int)<=(j:Int):=om;have j1:(j:Int)<(n:Int):=om;clear kO hm hr Kl Yg t7 H8 hy;go_upto_region 4 with (first | refine wpList_load_mid rfl 205 (.tmp 9) rfl b (off+j*15) rfl XM _ Dj underlying205 rfl XJ.size ?_ | refine wpList_store_mid rfl 205 (.tmp 4) (.tmp 10) rfl wr.heap.size 0 XM.toArray rfl rfl ki XJ.sizea XJ.onea ?_)
   refine fin (λW=>Blk W wr.heap.size 205 XM.toArray/\Bw w W) HK ?_;clear HK ki Dj HB;obtain⟨g4,Xj⟩:∃g4,g4=wr.heap.size:=⟨_,rfl⟩;rw[<-Xj];rintro W ⟨k4,hb⟩;obtain⟨vo,c4⟩:=Zb.out W g4 k4;have t8:=kA vo;have HB:=kA hb;have z4:=k4.lt;clear k4 hb vo Xj
   by_cases vn:y<0
   ·have HE:Hid (l.any zhA=true):=kA (xS (by rw[Ko.out,decide_eq_true vn];simp));go_wp2;go_ret;exact⟨by rw[HE.out] <;> rfl,HB⟩
   ·have Dv:0<=y:=om;go_wp2_with (first | refine za6 (by rfl) 46 (.tmp 15) rfl g4 2 rfl MM _ t8 underlying46 rfl dn.size ?_ | refine zmr (by rfl) 326 46 (.tmp 16) rfl MM rfl dw ?_)
    refine (dM _ _ (Blk.new W _ _)).mono ?_;rintro e w2 ⟨rfl,b2⟩;have He:=kA (zad HB (zad (zaa _ _) b2));clear b2 dM dw t8
    cases ok with
    | false=>
     have HE:Hid (l.any zhA=true):=kA (xS (by rw[Ko.out];rfl));go_wp2;go_ret;exact⟨by rw[HE.out] <;> rfl,He⟩
    | true=>
     have nA:Hid ((l.take (j+1)).any zhA=false):=kA (by rw[nz.out,zG.out,Ko.out,decide_eq_false (show ¬y<0 by omega)];rfl);go_wp2;go_roundw
     case rel=>exact⟨j+1,om,by go_num,nA.out,He⟩
     case measure=>simp[ivl] <;> omega
  ·obtain rfl:j=n:=om;have e0:l.take j=l:=take_of_length_le (by rw[HL.out];exact Nat.le_refl _);rw[e0]at zG;have j1:¬(j:Int)<(j:Int):=om;clear e0 kO;go_wp2;go_ret;exact⟨by rw[zG.out] <;> rfl,HB⟩
abbrev LK:=Int × Int
def cLk(x:LK):List Value:=[.int .i64 x.1,.int .i64 x.2]
def wT(p:Wp)(T:FT)(Ff:Nat->Prop):Wp:={ p with T:=T,Ff:=Ff }
def zcg:FT->List LK->FT × Int
 | T,[]=>(T,0)
 | T,lk::r=>if lk.2<0 then zcg T r else if zbq T lk.1 lk.2=0 then zcg (setF T lk.1 lk.2) r else (T,zbq T lk.1 lk.2)
section
variable {w u:World} {p q:Wp}
theorem LW.free1(k:LW u q)(hW:WF q.T)(hL:q.T.length<=1000){c:Int}(hc:Rg c):Calls prog 95 #[.pointer (some ⟨q.gf,0,none⟩),.slice (some ⟨u.heap.size,0,none⟩) 1 1] (u.alloc (.cells #[.int .i64 c] 81)) λe w'=>∃z,e= .returned (.int .i64 z)/\∃KJ,ChL u w' q (wT q (zaG q.T c) KJ):=by
 have Hf:Bw u (u.alloc (.cells #[.int .i64 c] 81)):=zaa _ _
 have hr:Row (u.alloc (.cells #[.int .i64 c] 81)) (some ⟨u.heap.size,0,none⟩) 1 [c]:=⟨rfl,om,.inr ⟨_,_,rfl,λj hj=>by
  obtain rfl:j=0:=om
  exact (Blk.new u 81 #[.int .i64 c]).cell 0⟩⟩
 have k2:=k.keep Hf;refine (zj9 k2.fo hW hL (show 1<=1000 by omega) hr (.inr (λad e hf=> ?_)) (λz hz=>by rw[mem_singleton.1 hz];exact hc)).mono ?_
 ·have:=k.fo.inb ad.block hf;injection e with e;rw[<-e]at this;exact absurd this (Nat.lt_irrefl _)
 ·rintro e w' ⟨rfl,Hg⟩;refine⟨_,rfl,?_⟩;obtain⟨KJ,di⟩:=k2.setF Hg;exact⟨KJ,(ChL.still k Hf).join di⟩
theorem LW.set1(k:LW u q)(hW:WF q.T)(hL:q.T.length<=1000){c d:Int}(hc:Rg c)(hd:Rg d):Calls prog 63 #[.pointer (some ⟨q.gf,0,none⟩),.int .i64 c,.int .i64 d] u λe w'=>e= .returned (.int .i64 (zbq q.T c d))/\∃KJ,ChL u w' q (wT q (zbD q.T c d) KJ):=by
 refine (znd k.fo hW hL hc hd).mono ?_;rintro e w' ⟨rfl,Hg⟩;exact⟨rfl,k.setF Hg⟩
theorem zuT{X:List LK}{lk:LK}(h:X[j]? =some lk)(T:FT):zcg T (X.drop j)=if lk.2<0 then zcg T (X.drop (j+1)) else if zbq T lk.1 lk.2=0 then zcg (setF T lk.1 lk.2) (X.drop (j+1)) else (T,zbq T lk.1 lk.2):=by
 obtain⟨hk,e⟩:=List.getElem?_eq_some_iff.1 h;rw[drop_eq_getElem_cons hk,e];rfl
theorem zuU{X:List LK}(h:X.length<=j)(T:FT):zcg T (X.drop j)=(T,0):=by
 rw[drop_eq_nil_of_le h];rfl
theorem znW(T:FT)(c d:Int):(setF T c d).length<=T.length+1:=by
 unfold setF;have:=zeP T c;rw[length_append,length_singleton];omega
theorem zpb{X:List LK}{lk:LK}(h:X[j]? =some lk)(T:FT):zay T ((X.take (j+1)).map Prod.fst)=zaG (zay T ((X.take j).map Prod.fst)) lk.1:=by
 unfold zay;rw[take_add_one,h,map_append,foldl_append];rfl
theorem zkS(h:LW w p)(hW:WF p.T){a:Option Addr}{n cap:Nat}{X:List LK}(row:RowX 2 cLk w a n X)(ha:AwX (zba p) a n)(hX:∀k∈X,Rg k.1/\Rg k.2)(ku:p.T.length+n<=1000):
  Calls prog 192 #[.pointer (some ⟨p.g,0,none⟩),.slice a n cap] w λe w'=>e= .returned (.int .i64 (zcg (zay p.T (X.map Prod.fst)) X).2)/\∃Ff,ChL w w' p (wT p (zcg (zay p.T (X.map Prod.fst)) X).1 Ff):=by
 have Hy:=row.2.1;have Kb:=kA row.1;have hJ:Hid (∀u q,ChL w u p q->RowX 2 cLk u a n X):=kA (λu q k=>zhV row ha k.2.1);have Hu:Hid (ChL w w p (wT p (zay p.T ((X.take 0).map Prod.fst)) p.Ff)):=kA (ChL.still h (Below.refl _ _))
 have HF:Hid (∀u W g6 j lk Ff c d,X[j]? =some lk->lk=(c,d)->ChL w u p (wT p (zay p.T ((X.take j).map Prod.fst)) Ff)->Bw u W->Blk W g6 283 #[.int .i64 c,.int .i64 d]->u.heap.size<=g6->W.cell? ⟨p.g,0,none⟩=some (.pointer (some ⟨p.gf,0,none⟩))/\p.g<W.heap.size/\∀V,Bw W V->Calls prog 95 #[.pointer (some ⟨p.gf,0,none⟩),.slice (some ⟨V.heap.size,0,none⟩) 1 1] (V.alloc (.cells #[.int .i64 c] 81)) λe w2=>∃z,e= .returned (.int .i64 z)/\(∃KJ,ChL w w2 p (wT p (zay p.T ((X.take (j+1)).map Prod.fst)) KJ))/\w2.cell? ⟨p.g,0,none⟩=some (.pointer (some ⟨p.gf,0,none⟩))/\w2.cell? ⟨g6,0,none⟩=some (.int .i64 c)):=kA (λu W g6 j lk Ff c d hj e k hb kD hg=>by
  subst e;have k1:=k.1.keep hb;refine⟨k1.cells.1,k1.cells.2.2.2.2.2,λV hV=> ?_⟩;have k2:=k1.keep hV;refine (k2.free1 (WF.frees _ hW) (by show (zay p.T _).length<=1000;have:=zdM ((X.take j).map Prod.fst) p.T;omega) (hX _ (mem_of_getElem? hj)).1).mono ?_;rintro e w2 ⟨z,rfl,KJ,di⟩;have Xe:ChL w w2 p (wT (wT p (zay p.T ((X.take j).map Prod.fst)) Ff) (zaG (zay p.T ((X.take j).map Prod.fst)) c) KJ):=(k.join (ChL.still k.1 (zad hb hV))).join di;refine⟨z,rfl,⟨KJ,by rw[zpb hj];exact Xe⟩,Xe.1.cells.1,?_⟩;have jd:=kD.keep hV;have hbf:=jd.same (w':=w2) (di.2.1.2.2.2.2 g6 jd.lt (λc=>by have:=k.1.inb g6 c;omega))
  exact hbf.cell 0)
 have HS:Hid (∀u W g8 j lk T Ff c d,X[j]? =some lk->lk=(c,d)->WF T->T.length+(n - j)<=1000->ChL w u p (wT p T Ff)->Bw u W->Blk W g8 283 #[.int .i64 c,.int .i64 d]->u.heap.size<=g8->W.cell? ⟨p.g,0,none⟩=some (.pointer (some ⟨p.gf,0,none⟩))/\p.g<W.heap.size/\ChL w W p (wT p T Ff)/\∀V,Bw W V->Calls prog 63 #[.pointer (some ⟨p.gf,0,none⟩),.int .i64 c,.int .i64 d] V λe w2=>e= .returned (.int .i64 (zbq T c d))/\(∃KJ,ChL w w2 p (wT p (zbD T c d) KJ))/\w2.cell? ⟨p.g,0,none⟩=some (.pointer (some ⟨p.gf,0,none⟩))/\w2.cell? ⟨g8,0,none⟩=some (.int .i64 c)/\w2.cell? ⟨g8,1,none⟩=some (.int .i64 d)):=kA (λu W g6 j lk T Ff c d hj e JA zH k hb kD hg=>by
  subst e;have k1:=k.1.keep hb;refine⟨k1.cells.1,k1.cells.2.2.2.2.2,k.join (ChL.still k.1 hb),λV hV=> ?_⟩;have k2:=k1.keep hV;have hr:=hX _ (mem_of_getElem? hj);refine (k2.set1 JA (by show T.length<=1000;omega) hr.1 hr.2).mono ?_;rintro e w2 ⟨rfl,KJ,di⟩;have Xe:ChL w w2 p (wT (wT p T Ff) (zbD T c d) KJ):=(k.join (ChL.still k.1 (zad hb hV))).join di;have jd:=kD.keep hV;have hbf:=jd.same (w':=w2) (di.2.1.2.2.2.2 g6 jd.lt (λc=>by have:=k.1.inb g6 c;omega))
  exact⟨rfl,⟨KJ,Xe⟩,Xe.1.cells.1,hbf.cell 0,hbf.cell 1⟩)
 have YQ:Hid (WF (zay p.T (X.map Prod.fst))/\(zay p.T (X.map Prod.fst)).length+n<=1000):=kA ⟨WF.frees _ hW,by have:=zdM (X.map Prod.fst) p.T;omega⟩;obtain⟨g,hge⟩:∃g,g=p.g:=⟨_,rfl⟩;obtain⟨gf,Xb⟩:∃gf,gf=p.gf:=⟨_,rfl⟩;rw[<-hge]at HF HS ⊢;rw[<-Xb]at HF HS;obtain⟨R,hR⟩:∃R,R=zcg (zay p.T (X.map Prod.fst)) X:=⟨_,rfl⟩;have HR:=kA hR;rw[<-hR];clear h hW row ha hX ku hge Xb hR;go_enter func192,ntmps192;go_wp2
 go_loopw [6,12] (λ_ i wr=>∃ (j:Nat) (Ff:Nat->Prop),j<=n/\i= .int .i64 j/\ChL w wr p (wT p (zay p.T ((X.take j).map Prod.fst)) Ff)) (λ_ i _=>n - (ivl i).toNat)
 case atStart=>exact⟨0,p.Ff,om,rfl,Hu⟩
 case round=>
  clear Hu;obtain⟨j,Ff,hj,rfl,Hg⟩:=hrel;have kO:=hJ.out wr _ Hg;have Hw:=kA Hg;clear Hg
  by_cases hlt:j<n
  ·obtain⟨b,off,lk,rfl,Ht,hx,hr⟩:=kO.at_ hlt;obtain⟨c,hc⟩:∃c,c=lk.1:=⟨_,rfl⟩;obtain⟨d,hd⟩:∃d,d=lk.2:=⟨_,rfl⟩;have cx:wr.cell? ⟨b,off+j*2,none⟩=some (.int .i64 c):=by rw[hc];exact hr 0 _ rfl
   have cy:wr.cell? ⟨b,off+j*2+1,none⟩=some (.int .i64 d):=by rw[hd];exact hr 1 _ rfl
   have hK:=Blk.new wr 283 #[.int .i64 c,.int .i64 d];have HK:Hid (Blk (wr.alloc (.cells #[.int .i64 c,.int .i64 d] 283)) wr.heap.size 283 #[.int .i64 c,.int .i64 d]/\Bw wr (wr.alloc (.cells #[.int .i64 c,.int .i64 d] 283))):=kA ⟨hK,zaa _ _⟩;have Dn:=kA (λW g6=>HF.out wr W g6 j lk Ff c d hx (by rw[hc,hd]) Hw);have j0:(0:Int)<=(j:Int):=om;have j1:(j:Int)<(n:Int):=om;clear kO hx hr hc hd hK;go_upto_region 4 with fail;refine fin (λW=>Blk W wr.heap.size 283 #[.int .i64 c,.int .i64 d]/\Bw wr W) HK ?_;clear HK cx cy;obtain⟨g6,DZ⟩:∃g6,g6=wr.heap.size:=⟨_,rfl⟩;rw[<-DZ];rintro W ⟨k6,hb⟩;obtain⟨c0,hg,kE⟩:=Dn.out W g6 (by first | exact hb | (rw[DZ]at hb;exact hb)) k6 om
   have sM:=kA kE;have c6:W.cell? ⟨g6,0,none⟩=some (.int .i64 c):=k6.cell 0;have z6:=k6.lt;clear kE Dn k6 hb DZ Hw
   go_region_held3 (λw'=>w'.cell? ⟨g,0,none⟩=some (.pointer (some ⟨gf,0,none⟩))/\w'.cell? ⟨g6,0,none⟩=some (.int .i64 c)) (first | exact⟨c0,c6⟩ | exact⟨ZJ,Sw⟩ | exact⟨zam c0 (zad (zaw W) (zaa _ _)),zam c6 (zad (zaw W) (zaa _ _))⟩)
    (first | (go_at_call 95;refine (sM _ (za5 (Below.refl _ _))).mono ?_;rintro e w2 ⟨z,rfl,Hg,ZJ,Sw⟩;have Kp:=kA Hg;clear Hg))
   obtain⟨KJ,dG⟩:=Kp.out;have JB:=kA dG;clear dG Kp;go_wp2;go_roundw
   case rel=>exact⟨j+1,KJ,om,by go_num,JB⟩
   case measure=>simp[ivl] <;> omega
  ·obtain rfl:j=n:=om;have e0:X.take j=X:=take_of_length_le (by rw[Kb.out];exact Nat.le_refl _);rw[e0]at Hw;have j1:¬(j:Int)<(j:Int):=om;clear e0 kO hlt HF;go_wp2
   go_loopw [8,9,27] (λ_ _ i wx=>∃ (k:Nat) (T:FT) (F2:Nat->Prop),k<=j/\i= .int .i64 k/\WF T/\T.length+(j - k)<=1000/\R=zcg T (X.drop k)/\ChL w wx p (wT p T F2)) (λ_ _ i _=>j - (ivl i).toNat)
   case atStart=>exact⟨0,_,Ff,om,rfl,YQ.1,by have:=YQ.2;omega,HR.out,Hw⟩
   case round=>
    clear Hw;obtain⟨k,T,F2,hk,rfl,JA,zH,Ta,Hg⟩:=hrel;have kO:=hJ.out wr _ Hg;have Hw:=kA Hg;have sN:=kA JA;have sO:=kA zH;have dF:=kA Ta;clear Hg JA zH Ta
    by_cases hlt:k<j
    ·obtain⟨b,off,lk,rfl,Ht,hx,hr⟩:=kO.at_ hlt;have kM:=kA (zuT hx T);obtain⟨c,hc⟩:∃c,c=lk.1:=⟨_,rfl⟩;obtain⟨d,hd⟩:∃d,d=lk.2:=⟨_,rfl⟩;have cx:wr.cell? ⟨b,off+k*2,none⟩=some (.int .i64 c):=by rw[hc];exact hr 0 _ rfl
     have cy:wr.cell? ⟨b,off+k*2+1,none⟩=some (.int .i64 d):=by rw[hd];exact hr 1 _ rfl
     rw[<-hc,<-hd]at kM;have hK:=Blk.new wr 283 #[.int .i64 c,.int .i64 d];have HK:Hid (Blk (wr.alloc (.cells #[.int .i64 c,.int .i64 d] 283)) wr.heap.size 283 #[.int .i64 c,.int .i64 d]/\Bw wr (wr.alloc (.cells #[.int .i64 c,.int .i64 d] 283))):=kA ⟨hK,zaa _ _⟩;have Hu:=kA (λW g6=>HS.out wr W g6 k lk T F2 c d hx (by rw[hc,hd]) sN sO Hw);have k0:(0:Int)<=(k:Int):=om;have k1:(k:Int)<(j:Int):=om;clear kO hx hr hc hd hK;go_upto_region 9 with fail;refine fin (λW=>Blk W wr.heap.size 283 #[.int .i64 c,.int .i64 d]/\Bw wr W) HK ?_;clear HK cx cy;obtain⟨g6,DZ⟩:∃g6,g6=wr.heap.size:=⟨_,rfl⟩;rw[<-DZ];rintro W ⟨k6,hb⟩;obtain⟨c0,hg,je,jf⟩:=Hu.out W g6 (by first | exact hb | (rw[DZ]at hb;exact hb)) k6 om
     have Kd:=kA jf;have sP:=kA je;have c6:W.cell? ⟨g6,0,none⟩=some (.int .i64 c):=k6.cell 0;have c7:W.cell? ⟨g6,1,none⟩=some (.int .i64 d):=k6.cell 1;have z6:=k6.lt;clear jf je Hu k6 hb DZ Hw
     by_cases Tb:d<0
     ·have HN:Hid (R=zcg T (X.drop (k+1))):=kA (by rw[dF.out,kM.out,if_pos Tb]);clear Kd;go_wp2;go_roundw
      case rel=>exact⟨k+1,T,F2,om,by go_num,sN.out,by have:=sO.out;omega,HN.out,sP⟩
      case measure=>simp[ivl] <;> omega
     ·have yO:0<=d:=om;have JC:Hid (zbD T c d=if zbq T c d=0 then setF T c d else T):=kA rfl
      have Tc:Hid (WF (zbD T c d)):=kA (sN.set9 c d);obtain⟨E,hE⟩:∃E,E=zbq T c d:=⟨_,rfl⟩;obtain⟨T2,Xv⟩:∃T2,T2=zbD T c d:=⟨_,rfl⟩;rw[<-hE]at Kd kM JC;rw[<-Xv]at Kd JC Tc;have jg:Hid (R=if E=0 then zcg (setF T c d) (X.drop (k+1)) else (T,E)):=kA (by rw[dF.out,kM.out,if_neg Tb])
      clear hE Xv kM;go_upto_region 10 with fail
      go_region_held3 (λw'=>w'.cell? ⟨g,0,none⟩=some (.pointer (some ⟨gf,0,none⟩))/\w'.cell? ⟨g6,0,none⟩=some (.int .i64 c)/\w'.cell? ⟨g6,1,none⟩=some (.int .i64 d)) (first | exact⟨c0,c6,c7⟩ | exact⟨ZJ,Sw,c72⟩)
       (first | (go_at_call 63;refine (Kd _ (za5 (Below.refl _ _))).mono ?_;rintro e w2 ⟨rfl,Hg,ZJ,Sw,c72⟩;have Kp:=kA Hg;clear Hg))
      obtain⟨KJ,dG⟩:=Kp.out;have JB:=kA dG;clear dG Kp
      by_cases dI:E=0
      ·subst dI;have yH:Hid (T2=setF T c d):=kA (by rw[JC.out,if_pos rfl]);have HN:Hid (R=zcg T2 (X.drop (k+1))):=kA (by rw[jg.out,if_pos rfl,yH.out]);have sQ:Hid (T2.length+(j - (k+1))<=1000):=kA (by rw[yH.out];have:=sO.out;have:=znW T c d;omega);go_wp2;go_roundw
       case rel=>exact⟨k+1,T2,KJ,om,by go_num,Tc.out,sQ.out,HN.out,JB⟩
       case measure=>simp[ivl] <;> omega
      ·have HN:Hid (R=(T,E)):=kA (by rw[jg.out,if_neg dI]);have yH:Hid (T2=T):=kA (by rw[JC.out,if_neg dI]);go_wp2;go_ret;exact⟨by rw[HN.out] <;> rfl,KJ,by have:=JB.out;rw[yH.out]at this;rw[HN.out];exact this⟩
    ·obtain rfl:k=j:=om;have HN:Hid (R=(T,0)):=kA (by rw[dF.out,zuU (by rw[Kb.out];exact Nat.le_refl _)]);have k1:¬(k:Int)<(k:Int):=om;clear kO hlt;go_wp2;go_ret;exact⟨by rw[HN.out] <;> rfl,F2,by rw[HN.out];exact Hw.out⟩
end
end Go.Proofs.YtlibdcmcbinfnaaGreat
