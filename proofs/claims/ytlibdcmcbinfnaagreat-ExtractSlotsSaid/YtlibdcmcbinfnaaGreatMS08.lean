/- Lemmas. -/
import Derived.Test.YtlibdcmcbinfnaaGreatMS07
import Derived.Deep.Cut
import Derived.Deep.CutRange
import Derived.Shelf.SlIterI.Nil
import Derived.Shelf.SortM.Plain
import Derived.Shelf.SortM.SortNone
import Derived.Shelf.SlicesG.Clone
import Derived.Test.YtlibdcmcbinfnaaGreatProg
import Derived.Lib.SlKeysI
set_option maxHeartbeats 100000000
set_option maxRecDepth 1000000
namespace Go.Proofs.YtlibdcmcbinfnaaGreat
open _root_.Go.Proofs.Tryz List Nat
open Go.RowKit
variable{G:Nat->Int}{x y id a z c p b:Int}{R i j r n m k:Nat}{S S':St}{P:PT}{Q:Exit->Go.Act->World->Prop}{ks l zs xs ns:List Int}{N:St->Prop}{I:Int->PT->Prop}{w w1 w2 w':World}{F:Nat->Prop}{ops:Array Oper}{op:Oper}{v:Value}
theorem zaU{L:Nat->Bool} :zbO G L x=true↔0<=x/\x<16777216/\L (x % 256).toNat=true/\G (x % 256).toNat=x / 256:=by
 unfold zbO zel;simp[and_assoc]
theorem zqt{L:Nat->Bool}(h:tkI G L R=some i)(hp:POk R G L)(x:Int):zbO G (tkL G L R) x=true↔zbO G L x=true∨x=tkV G L R:=by
 obtain⟨h1,h2,h3⟩:=zlv h;have hi:i<256:=by have:=hp.1;omega
 have hg:=(hp.2.1 i).1;rw[(zgH h).1,show tkL G L R=upd L i true by unfold tkL;rw[h],zaU,zaU];unfold nm upd
 by_cases c:(x % 256).toNat=i
 ·rw[c,if_pos rfl,h2];constructor
  ·rintro⟨a,b,_,d⟩
   right;omega
  ·rintro (⟨_,_,d,_⟩ | d)
   ·cases d
   ·refine⟨om,om,rfl,om⟩
 ·rw[if_neg c];constructor
  ·exact λa=>Or.inl a
  ·rintro (a | d)
   ·exact a
   ·exact absurd (show (x % 256).toNat=i by omega) c
theorem zte{L:Nat->Bool}(h:tkI G L R=some i)(hp:POk R G L):zbO G L (tkV G L R)=false:=by
 obtain⟨h1,h2,h3⟩:=zlv h;have hi:i<256:=by have:=hp.1;omega
 have hg:=(hp.2.1 i).1;rw[Bool.eq_false_iff,(zgH h).1];intro c;rw[zaU]at c;unfold nm at c;rw[show ((256*G i+(i:Int)) % 256).toNat=i by omega,h2]at c
 cases c.2.2.1
theorem zqu{L:Nat->Bool}(hl:zbO G L y=true)(x:Int):zbO (drG G L y) (drL G L y) x=true↔zbO G L x=true/\x≠y:=by
 have hy:=zaU.1 hl;unfold drG drL;rw[if_pos hl,if_pos hl,zaU,zaU];unfold upd
 by_cases c:(x % 256).toNat=(y % 256).toNat
 ·rw[if_pos c,if_pos c];constructor
  ·rintro⟨_,_,d,_⟩
   cases d
  ·rintro⟨⟨a,b,d,e⟩,n⟩;rw[c]at e;omega
 ·rw[if_neg c,if_neg c];constructor
  ·exact λa=>⟨a,λe=>c (by rw[e])⟩
  ·exact λa=>a.1
theorem zqv(h:WS S){id:Int}{s:Nat}{P:PT}(hs:s<32)(hf:zbN s P=true)(hm:∀j,j<32->∀x Q,(x,Q)∈S'.T j↔((x,Q)∈S.T j/\x≠id)∨(j=s/\x=id/\Q=P))
  (hn:∀i,i<32->((S'.T i).map Prod.fst).Nodup)(hl:∀x,zai S' x=true↔zai S x=true∨x=id)(H8:POk S'.room S'.G S'.L):WS S'/\∀x Q,inS S' x Q↔(inS S x Q/\x≠id)∨(x=id/\Q=P):=by
 have hin:∀x Q,inS S' x Q↔(inS S x Q/\x≠id)∨(x=id/\Q=P):=λx Q=>by
  constructor
  ·rintro⟨j,hj,m⟩;rcases (hm j hj x Q).1 m with ⟨a,b⟩ | ⟨_,b,d⟩
   ·exact .inl ⟨⟨j,hj,a⟩,b⟩
   ·exact .inr ⟨b,d⟩
  ·rintro (⟨⟨j,hj,m⟩,b⟩ | ⟨b,d⟩)
   ·exact⟨j,hj,(hm j hj x Q).2 (.inl ⟨m,b⟩)⟩
   ·exact⟨s,hs,(hm s hs x Q).2 (.inr ⟨rfl,b,d⟩)⟩
 refine⟨⟨hn,λi hi j hj Ho x A B m1 m2=> ?_,λi hi x m=> ?_,λx=> ?_,H8⟩,hin⟩
 ·rcases (hm i hi x A).1 m1 with ⟨a,b⟩ | ⟨e,b,_⟩
  ·rcases (hm j hj x B).1 m2 with ⟨c,_⟩ | ⟨_,d,_⟩
   ·exact h.apart i hi j hj Ho x A B a c
   ·exact b d
  ·rcases (hm j hj x B).1 m2 with ⟨_,d⟩ | ⟨e',_,_⟩
   ·exact d b
   ·exact Ho (e.trans e'.symm)
 ·obtain⟨x,Q⟩:=x;rcases (hm i hi x Q).1 m with ⟨a,_⟩ | ⟨e,_,d⟩
  ·exact h.fit i hi _ a
  ·rw[e,d];exact hf
 ·rw[hl,h.live];constructor
  ·rintro (⟨Q,hQ⟩ | e)
   ·by_cases c:x=id
    ·exact⟨P,(hin x P).2 (.inr ⟨c,rfl⟩)⟩
    ·exact⟨Q,(hin x Q).2 (.inl ⟨hQ,c⟩)⟩
   ·exact⟨P,(hin x P).2 (.inr ⟨e,rfl⟩)⟩
  ·rintro⟨Q,hQ⟩;rcases (hin x Q).1 hQ with ⟨a,_⟩ | ⟨a,_⟩
   ·exact .inl ⟨Q,a⟩
   ·exact .inr a
theorem zyp(h:WS S){id:Int}(hm:∀j,j<32->∀x Q,(x,Q)∈S'.T j↔(x,Q)∈S.T j/\x≠id)
  (hn:∀i,i<32->((S'.T i).map Prod.fst).Nodup)(hl:∀x,zai S' x=true↔zai S x=true/\x≠id)(H8:POk S'.room S'.G S'.L):WS S'/\∀x Q,inS S' x Q↔inS S x Q/\x≠id:=by
 have hin:∀x Q,inS S' x Q↔inS S x Q/\x≠id:=λx Q=>by
  constructor
  ·rintro⟨j,hj,m⟩;obtain⟨a,b⟩:=(hm j hj x Q).1 m;exact⟨⟨j,hj,a⟩,b⟩
  ·rintro⟨⟨j,hj,m⟩,b⟩;exact⟨j,hj,(hm j hj x Q).2 ⟨m,b⟩⟩
 refine⟨⟨hn,λi hi j hj Ho x A B m1 m2=>h.apart i hi j hj Ho x A B ((hm i hi x A).1 m1).1 ((hm j hj x B).1 m2).1,λi hi x m=> ?_,λx=> ?_,H8⟩,hin⟩
 ·obtain⟨x,Q⟩:=x;exact h.fit i hi _ ((hm i hi x Q).1 m).1
 ·rw[hl,h.live];constructor
  ·rintro⟨⟨Q,hQ⟩,e⟩;exact⟨Q,(hin x Q).2 ⟨hQ,e⟩⟩
  ·rintro⟨Q,hQ⟩;obtain⟨a,b⟩:=(hin x Q).1 hQ;exact⟨⟨Q,a⟩,b⟩
theorem zyq(h:WS S){id:Int}(hd:zai S id=false){j:Nat}(hj:j<32):zcW (S.T j) id=false:=by
 rw[Bool.eq_false_iff];intro c;obtain⟨P,hP⟩:=zbH.1 c;have:=(h.live id).2 ⟨P,j,hj,hP⟩;rw[hd]at this
 cases this
theorem zqw(h:r<=256):WS (St0 r):=by
 refine⟨λi _=>nodup_nil,λi _ j _ _ x P Q m=> ?_,λi _ x m=> ?_,λx=> ?_,POk.zero h⟩
 ·cases m
 ·cases m
 ·constructor
  ·intro c;unfold zai at c;rw[zaU]at c
   cases c.2.2.1
  ·rintro⟨P,j,_,m⟩
   cases m
theorem zyr(h:spE S P=0):zaz P=true/\∃i,tkI S.G S.L S.room=some i:=by
 unfold spE at h
 by_cases c:zaz P=true
 ·rw[if_pos c]at h;refine⟨c,?_⟩
  cases d:tkI S.G S.L S.room with
  | none=>unfold tkE at h;rw[d]at h;cases h
  | some i=>exact⟨i,rfl⟩
 ·rw[if_neg c]at h
  cases h
theorem ziv(h:WS S){P:PT}(he:spE S P=0):WS (spS S P)/\zai S (spV S P)=false/\∀x Q,inS (spS S P) x Q↔(inS S x Q/\x≠spV S P)∨(x=spV S P/\Q=P):=by
 obtain⟨hr,i,ht⟩:=zyr he;obtain⟨r1,r2,_,_⟩:=zdL hr;have hv:spV S P=tkV S.G S.L S.room:=by unfold spV;rw[if_pos he]
 have hd:zai S (spV S P)=false:=by rw[hv];exact zte ht h.ok
 have Kx:zbN (P.1.toNat:Nat) P=true:=zds.2 ⟨hr,r2.symm⟩;have hT:(spS S P).T=upf S.T P.1.toNat (S.T P.1.toNat++[(spV S P,P)]):=by
  unfold spS;rw[if_pos he];simp only;have:=zqo (R:=S.T P.1.toNat) (id:=spV S P) Kx (zyq h hd r1);rw[r2]at this;rw[<-hv,this]
 have hn:∀ {j:Nat},j<32->zcW (S.T j) (spV S P)=false:=fun {j} hj=>zyq h hd hj
 obtain⟨w1,w2⟩:=zqv (S':=spS S P) (id:=spV S P) h r1 Kx (λj hj x Q=>by
   rw[hT];unfold upf;have Ho:(x,Q)∈S.T j->x≠spV S P:=λm e=>by
    have:=hn hj;rw[Bool.eq_false_iff]at this;exact this (zbH.2 ⟨Q,e ▸ m⟩)
   by_cases c:j=P.1.toNat
   ·rw[if_pos c,mem_append,mem_singleton,Prod.mk.injEq,<-c];constructor
    ·rintro (m | m)
     ·exact .inl ⟨m,Ho m⟩
     ·exact .inr ⟨rfl,m.1,m.2⟩
    ·rintro (m | m)
     ·exact .inl m.1
     ·exact .inr m.2
   ·rw[if_neg c];constructor
    ·exact λm=>Or.inl ⟨m,Ho m⟩
    ·rintro (m | m)
     ·exact m.1
     ·exact absurd m.1 c) (λj hj=>by
   rw[hT];unfold upf
   by_cases c:j=P.1.toNat
   ·rw[if_pos c,map_append];refine nodup_append.2 ⟨h.nod _ r1,by simp,λa ha b hb=> ?_⟩;simp at hb;rw[hb];rintro rfl;obtain⟨⟨y,Q⟩,hy,rfl⟩:=mem_map.1 ha;have:=hn r1;rw[Bool.eq_false_iff]at this;exact this (zbH.2 ⟨Q,hy⟩)
   ·rw[if_neg c];exact h.nod j hj) (λx=>by
   have:=zqt ht h.ok x;unfold zai spS;rw[if_pos he];simp only;rw[hv];exact this) (by
   unfold spS;rw[if_pos he]
   exact h.ok.take)
 exact⟨w1,hd,w2⟩
theorem zfm(h:WS S){id:Int}{i:Nat}(ha:atS S id=some i):WS (deS S id)/\∀x Q,inS (deS S id) x Q↔inS S x Q/\x≠id:=by
 obtain⟨hi,hh⟩:=zcX ha;have hl:zbO S.G S.L id=true:=(h.live id).2 ⟨_,i,hi,zgI h ha⟩;have hd:deS S id={ S with T:=upf S.T i (zd9 (S.T i) (zaB (S.T i) id)),G:=drG S.G S.L id,L:=drL S.G S.L id,go:=S.go++[(id,S.now)] }:=by unfold deS;rw[ha]
 rw[hd];refine zyp h (λj hj x Q=> ?_) (λj hj=> ?_) (λx=>zqu hl x) (h.ok.drop id)
 ·simp only;unfold upf
  by_cases c:j=i
  ·rw[if_pos c,zqp (h.nod i hi) hh,c]
  ·rw[if_neg c];exact⟨λm=>⟨m,λe=>h.apart j hj i hi c x Q _ m (e ▸ zgI h ha)⟩,λm=>m.1⟩
 ·simp only;unfold upf
  by_cases c:j=i
  ·rw[if_pos c];exact zqq (h.nod i hi) hh
  ·rw[if_neg c];exact h.nod j hj
theorem zqx(h:WS S){id:Int}{i:Nat}(ha:atS S id=some i){P:PT}(hr:zaz P=true):WS (zdA S id P)/\∀x Q,inS (zdA S id P) x Q↔(inS S x Q/\x≠id)∨(x=id/\Q=P):=by
 obtain⟨hi,hh⟩:=zcX ha;obtain⟨r1,r2,_,_⟩:=zdL hr;have hl:zbO S.G S.L id=true:=(h.live id).2 ⟨_,i,hi,zgI h ha⟩;have Kx:zbN (P.1.toNat:Nat) P=true:=zds.2 ⟨hr,r2.symm⟩;have hd:zdA S id P={ S with T:=zem S.T i id P,ch:=zb8 S.ch id S.now }:=by unfold zdA;rw[ha]
 have Ho:∀j,j<32->j≠i->∀x Q,(x,Q)∈S.T j->x≠id:=λj hj c x Q m e=>h.apart j hj i hi c x Q _ m (e ▸ zgI h ha);rw[hd]
 by_cases c:i=P.1.toNat
 ·have hT:zem S.T i id P=upf S.T i (zhs i (S.T i) (zaB (S.T i) id) P):=by unfold zem;rw[if_pos c]
  refine zqv h r1 Kx (λj hj x Q=> ?_) (λj hj=> ?_) (λx=> ?_) h.ok
  ·simp only;rw[hT];unfold upf
   by_cases d:j=i
   ·rw[if_pos d,zqs (h.nod i hi) hh (c ▸ Kx),d,Prod.mk.injEq];constructor
    ·rintro (m | m)
     ·exact .inl m
     ·exact .inr ⟨c,m⟩
    ·rintro (m | m)
     ·exact .inl m
     ·exact .inr m.2
   ·rw[if_neg d];constructor
    ·exact λm=>Or.inl ⟨m,Ho j hj d x Q m⟩
    ·rintro (m | m)
     ·exact m.1
     ·exact absurd (m.1.trans c.symm) d
  ·simp only;rw[hT];unfold upf
   by_cases d:j=i
   ·rw[if_pos d];exact zww (h.nod i hi) hh (c ▸ Kx)
   ·rw[if_neg d];exact h.nod j hj
  ·exact⟨λa=>Or.inl a,λa=>a.elim (λb=>b) (λb=>b ▸ hl)⟩
 ·have hid:zcW (S.T P.1.toNat) id=false:=by
   rw[Bool.eq_false_iff];intro e;obtain⟨Q,hQ⟩:=zbH.1 e;exact Ho _ r1 (λe=>c e.symm) id Q hQ rfl
  have hT:zem S.T i id P=upf (upf S.T i (zd9 (S.T i) (zaB (S.T i) id))) P.1.toNat (S.T P.1.toNat++[(id,P)]):=by
   unfold zem;rw[if_neg c];have e:upf S.T i (zd9 (S.T i) (zaB (S.T i) id)) P.1.toNat=S.T P.1.toNat:=by unfold upf;rw[if_neg (λe=>c e.symm)]
   rw[e];have:=zqo (R:=S.T P.1.toNat) (id:=id) Kx hid;rw[r2]at this;rw[this]
  refine zqv h r1 Kx (λj hj x Q=> ?_) (λj hj=> ?_) (λx=> ?_) h.ok
  ·simp only;rw[hT];unfold upf
   by_cases d:j=P.1.toNat
   ·rw[if_pos d,mem_append,mem_singleton,Prod.mk.injEq,<-d];constructor
    ·rintro (m | m)
     ·exact .inl ⟨m,Ho j hj (λe=>c (e.symm.trans d)) x Q m⟩
     ·exact .inr ⟨rfl,m⟩
    ·rintro (m | m)
     ·exact .inl m.1
     ·exact .inr m.2
   ·rw[if_neg d]
    by_cases e:j=i
    ·rw[if_pos e,zqp (h.nod i hi) hh,e];constructor
     ·exact λm=>Or.inl m
     ·rintro (m | m)
      ·exact m
      ·exact absurd m.1 (λx=>c x)
    ·rw[if_neg e];constructor
     ·exact λm=>Or.inl ⟨m,Ho j hj e x Q m⟩
     ·rintro (m | m)
      ·exact m.1
      ·exact absurd m.1 d
  ·simp only;rw[hT];unfold upf
   by_cases d:j=P.1.toNat
   ·rw[if_pos d,map_append];refine nodup_append.2 ⟨h.nod _ r1,by simp,λa jH b hb=> ?_⟩;simp at hb;rw[hb];rintro rfl;obtain⟨⟨y,Q⟩,hy,rfl⟩:=mem_map.1 jH;rw[Bool.eq_false_iff]at hid;exact hid (zbH.2 ⟨Q,hy⟩)
   ·rw[if_neg d]
    by_cases e:j=i
    ·rw[if_pos e];exact zqq (h.nod i hi) hh
    ·rw[if_neg e];exact h.nod j hj
  ·exact⟨λa=>Or.inl a,λa=>a.elim (λb=>b) (λb=>b ▸ hl)⟩
theorem zwx{Q:PT}(he:puE S id Q ks=0):∃i,atS S id=some i/\zaz (zeC (zby S id) Q ks)=true:=by
 unfold puE at he
 by_cases c:zcF S id=true
 ·rw[if_pos c]at he;obtain⟨i,hi⟩:=Option.isSome_iff_exists.1 c;refine⟨i,hi,?_⟩;unfold zfV at he
  by_cases d:zfG (zby S id) Q ks=true
  ·have d':=d;unfold zfG at d;rw[Bool.and_eq_true,Bool.and_eq_true]at d;unfold zeC;rw[if_pos d'];exact zhQ ks d.1.1 d.1.2 d.2
  ·rw[if_neg d]at he;cases he
 ·rw[if_neg c]at he;cases he
theorem zwy(he:cuE S id ks=0):∃i,atS S id=some i/\zaz (zfW (zby S id) ks)=true:=by
 unfold cuE at he
 by_cases c:zcF S id=true
 ·rw[if_pos c]at he;obtain⟨i,hi⟩:=Option.isSome_iff_exists.1 c;refine⟨i,hi,?_⟩;unfold zeh at he
  by_cases d:zeD (zby S id) ks=true
  ·have d':=d;unfold zeD at d;rw[Bool.and_eq_true]at d;unfold zfW;rw[if_pos d'];exact zhR ks d.1 d.2
  ·rw[if_neg d]at he;cases he
 ·rw[if_neg c]at he;cases he
theorem zeG{ch:List (Int × Int)}{now t since:Int}(h:(x,t)∈ch)(ht:since<t)(hn:since<now):∃t',(x,t')∈zb8 ch id now/\since<t':=by
 unfold zb8
 by_cases c:x=id
 ·exact⟨now,by rw[c];simp,hn⟩
 ·exact⟨t,mem_append.2 (.inl (mem_filter.2 ⟨h,by simpa using c⟩)),ht⟩
theorem zeH(ch:List (Int × Int))(id now:Int):(id,now)∈zb8 ch id now:=by unfold zb8;simp
structure Told (S1:St->Prop) (I:Int->PT->Prop) (since:Int) (S:St):Prop where
 ws:WS S
 now:since<S.now
 chg:∀x P,inS S x P->I x P∨∃t,(x,t)∈S.ch/\since<t
 gon:∀x P,I x P->(∃Q,inS S x Q)∨∃t,(x,t)∈S.go/\since<t
theorem Told.put{since:Int}(h:Told N I since S){id:Int}{P:PT}(hw:WS S')(hin:∀x Q,inS S' x Q↔(inS S x Q/\x≠id)∨(x=id/\Q=P))(xM:S'.now=S.now)(Hg:S'.ch=zb8 S.ch id S.now)(hgo:S'.go=S.go):Told N I since S':=by
 refine⟨hw,xM ▸ h.now,λx Q hx=> ?_,λx Q hx=> ?_⟩
 ·rw[Hg];rcases (hin x Q).1 hx with ⟨a,b⟩ | ⟨a,_⟩
  ·rcases h.chg x Q a with c | ⟨t,c,d⟩
   ·exact .inl c
   ·exact .inr (zeG c d h.now)
  ·exact .inr ⟨S.now,by rw[a];exact zeH _ _ _,h.now⟩
 ·rw[hgo];rcases h.gon x Q hx with ⟨A,hA⟩ | c
  ·by_cases e:x=id
   ·exact .inl ⟨P,(hin x P).2 (.inr ⟨e,rfl⟩)⟩
   ·exact .inl ⟨A,(hin x A).2 (.inl ⟨hA,e⟩)⟩
  ·exact .inr c
theorem Told.spawn{since:Int}(h:Told N I since S)(P:PT):Told N I since (spS S P):=by
 by_cases he:spE S P=0
 ·obtain⟨w1,_,w2⟩:=ziv h.ws he;refine h.put w1 w2 (by unfold spS;rw[if_pos he]) ?_ (by unfold spS;rw[if_pos he]);unfold spS spV;rw[if_pos he,if_pos he]
 ·unfold spS;rw[if_neg he];exact h
theorem Told.lay{since:Int}(h:Told N I since S){id:Int}{i:Nat}(ha:atS S id=some i){P:PT}(hr:zaz P=true):Told N I since (zdA S id P):=by
 obtain⟨w1,w2⟩:=zqx h.ws ha hr;have hd:zdA S id P={ S with T:=zem S.T i id P,ch:=zb8 S.ch id S.now }:=by unfold zdA;rw[ha]
 exact h.put w1 w2 (by rw[hd]) (by rw[hd]) (by rw[hd])
theorem Told.pu{since:Int}(h:Told N I since S)(id:Int)(Q:PT)(ks:List Int):Told N I since (puS S id Q ks):=by
 unfold puS
 by_cases he:puE S id Q ks=0
 ·obtain⟨i,ha,hr⟩:=zwx he;rw[if_pos he];exact h.lay ha hr
 ·rw[if_neg he];exact h
theorem Told.cu{since:Int}(h:Told N I since S)(id:Int)(ks:List Int):Told N I since (cuS S id ks):=by
 unfold cuS
 by_cases he:cuE S id ks=0
 ·obtain⟨i,ha,hr⟩:=zwy he;rw[if_pos he];exact h.lay ha hr
 ·rw[if_neg he];exact h
theorem Told.de{since:Int}(h:Told N I since S)(id:Int):Told N I since (deS S id):=by
 cases ha:atS S id with
 | none=>
      have e:deS S id=S:=by unfold deS;rw[ha]
      rw[e];exact h
 | some i=>
  obtain⟨w1,w2⟩:=zfm h.ws ha;have hd:deS S id={ S with T:=upf S.T i (zd9 (S.T i) (zaB (S.T i) id)),G:=drG S.G S.L id,L:=drL S.G S.L id,go:=S.go++[(id,S.now)] }:=by unfold deS;rw[ha]
  refine⟨w1,by rw[hd];exact h.now,λx Q hx=> ?_,λx Q hx=> ?_⟩
  ·rw[hd];exact h.chg x Q ((w2 x Q).1 hx).1
  ·rcases h.gon x Q hx with ⟨A,hA⟩ | ⟨t,c,d⟩
   ·by_cases e:x=id
    ·refine .inr ⟨S.now,?_,h.now⟩;rw[hd,e];simp
    ·exact .inl ⟨A,(w2 x A).2 ⟨hA,e⟩⟩
   ·refine .inr ⟨t,?_,d⟩;rw[hd];exact mem_append.2 (.inl c)
theorem Told.to1{since:Int}(h:Told N I since S)(id:Int):Told N I since (to1 S id):=by
 unfold Go.Proofs.YtlibdcmcbinfnaaGreat.to1
 by_cases c:zai S id=true
 ·rw[if_pos c];refine⟨⟨h.ws.nod,h.ws.apart,h.ws.fit,h.ws.live,h.ws.ok⟩,h.now,λx P hx=> ?_,h.gon⟩;rcases h.chg x P hx with a | ⟨t,a,b⟩
  ·exact .inl a
  ·exact .inr (zeG a b h.now)
 ·rw[if_neg c];exact h
theorem Told.to{N:St->Prop}{I:Int->PT->Prop}{since:Int}:∀ (l:List Int) {S:St},Told N I since S->Told N I since (toS S l)
 | [],_,h=>h
 | x::l,_,h=>Told.to l (h.to1 x)
theorem Told.ne{since:Int}(h:Told N I since S):Told N I since (neS S):=
 ⟨⟨h.ws.nod,h.ws.apart,h.ws.fit,h.ws.live,h.ws.ok⟩,Int.lt_trans h.now (by show S.now<S.now+1;omega),h.chg,h.gon⟩
theorem Told.start(h:WS S):Told (λ_=>True) (λx P=>inS S x P) S.now (neS S):=
 ⟨⟨h.nod,h.apart,h.fit,h.live,h.ok⟩,by show S.now<S.now+1;omega,λx P hx=>Or.inl hx,λx P hx=>Or.inl ⟨P,hx⟩⟩
theorem Told.first(h:r<=256):Told (λ_=>True) (λ_ _=>False) 0 (St0 r):=by
 refine⟨zqw h,?_,λx P hx=> ?_,λx P hx=>hx.elim⟩
 ·show (0:Int)<1;omega
 ·obtain⟨i,_,m⟩:=hx
  cases m
theorem ztf(out:List Int)(x:Int):(ztd out x).Perm (x::out):=by
 unfold ztd;have:=takeWhile_append_dropWhile (p:=λy=>decide (y<=x)) (l:=out);exact (perm_middle).trans (List.Perm.cons x (by rw[this]))
theorem zcJ:∀ (l out:List Int),(l.foldl ztd out).Perm (l++out)
 | [],out=>List.Perm.refl _
 | x::l,out=>by
  refine (zcJ l (ztd out x)).trans ?_;refine (List.Perm.append_left l (ztf out x)).trans ?_;exact perm_middle
theorem zf8:x∈zbW l↔x∈l:=by
 unfold zbW;rw[(zcJ l []).mem_iff];simp
theorem zf9(l:List Int):(zbW l).length=l.length:=by
 unfold zbW;rw[(zcJ l []).length_eq];simp
theorem zeI{since:Int}:x∈chL S since↔zai S x=true/\∃t,(x,t)∈S.ch/\since<t:=by
 unfold chL;rw[zf8,mem_map];constructor
 ·rintro⟨⟨y,t⟩,hy,rfl⟩;rw[mem_filter,Bool.and_eq_true,decide_eq_true_eq]at hy;exact⟨hy.2.1,t,hy.1,hy.2.2⟩
 ·rintro⟨hl,t,ht,hs⟩;exact⟨(x,t),mem_filter.2 ⟨ht,by rw[Bool.and_eq_true,decide_eq_true_eq];exact⟨hl,hs⟩⟩,rfl⟩
theorem zqy{since:Int}:x∈goL S since↔∃t,(x,t)∈S.go/\since<t:=by
 unfold goL;rw[zf8,mem_map];constructor
 ·rintro⟨⟨y,t⟩,hy,rfl⟩;rw[mem_filter,decide_eq_true_eq]at hy;exact⟨t,hy.1,hy.2⟩
 ·rintro⟨t,ht,hs⟩;exact⟨(x,t),mem_filter.2 ⟨ht,by simpa using hs⟩,rfl⟩
theorem zcs(h:WS S){x:Int}:x∈alS S↔zai S x=true:=by
 constructor
 ·exact λhx=>ztc h.ok hx
 ·intro hl;obtain⟨i,hi,_,hL,hx⟩:=zgG hl;unfold alS zd3;rw[mem_map];exact⟨i,mem_filter.2 ⟨mem_range.2 hi,hL⟩,hx.symm⟩
theorem Fr.after{L:Nat->Prop}(hb:Bw w w1)(h:Fr w1 w2 L):Fr w w2 L:=
 ⟨h.1.trans hb.os,h.2.1.trans hb.tape,h.2.2.1.trans hb.output,Nat.le_trans hb.size h.2.2.2.1,λb hl hn=>(h.2.2.2.2 b (Nat.lt_of_lt_of_le hl hb.size) hn).trans (hb.block b hl)⟩
theorem Fr.behind{L:Nat->Prop}(h:Fr w w1 L)(hb:Bw w1 w2):Fr w w2 L:=
 ⟨hb.os.trans h.1,hb.tape.trans h.2.1,hb.output.trans h.2.2.1,Nat.le_trans h.2.2.2.1 hb.size,λb hl hn=>(hb.block b (Nat.lt_of_lt_of_le hl h.2.2.2.1)).trans (h.2.2.2.2 b hl hn)⟩
def Bd(S:St)(m:Nat):Prop:=S.ch.length<=m/\S.go.length<=m/\(∀i,i<32->(S.T i).length<=m)/\0<S.now/\S.now<=m+1/\S.room<=256
def Aw(F:Nat->Prop)(a:Option Addr)(n:Nat):Prop:=n=0∨∀ad,a=some ad->¬F ad.block
def LRes(w w':World)(xs:List Int)(v:Value):Prop:=∃a cap,v= .slice a xs.length cap/\Row w' a xs.length xs/\(xs.length=0∨∀ad,a=some ad->w.heap.size<=ad.block)
def Chg(SB:World->Nat->(Nat->Prop)->St->Prop)(w w':World)(g:Nat)(F:Nat->Prop)(S:St):Prop:=∃F',SB w' g F' S/\Fr w w' F/\∀b,F' b->F b∨w.heap.size<=b
section
variable {SB:World->Nat->(Nat->Prop)->St->Prop}
theorem Chg.of{g:Nat}(h:Chg SB w1 w2 g F S)(hb:Bw w w1):Chg SB w w2 g F S:=by
 obtain⟨F',h1,h2,h3⟩:=h;exact⟨F',h1,Fr.after hb h2,λb hf=>(h3 b hf).imp_right (λc=>Nat.le_trans hb.size c)⟩
end
theorem zbI{a:Option Addr}(h:Row w a n zs)(ha:Aw F a n)(hf:Fr w w' F):Row w' a n zs:=by
 obtain⟨h1,h2,h3⟩:=h;refine⟨h1,h2,?_⟩;rcases h3 with h3 | ⟨b,off,e,hc⟩
 ·exact .inl h3
 ·by_cases c:n=0
  ·exact .inl c
  ·refine .inr ⟨b,off,e,λi hi=> ?_⟩;have J3:=hc i hi;have hlt:=World.block_lt_of_cell? w _ J3;have hn:¬F b:=ha.elim (λd=>absurd d c) (λd=>d _ e);rw[World.cell?_of_block (w:=w) (w':=w') (hf.2.2.2.2 b hlt hn)];exact J3
theorem zu8{F':Nat->Prop}{a:Option Addr}{z:Nat}(ha:Aw F a n)(hr:Row w a n zs)(hz:w.heap.size<=z)(hl:∀b,F' b->F b∨z<=b):Aw F' a n:=by
 rcases hr.2.2 with h3 | ⟨b,off,e,hc⟩
 ·exact .inl h3
 ·by_cases c:n=0
  ·exact .inl c
  ·refine .inr (λad e' hf=> ?_);have hlt:=World.block_lt_of_cell? w _ (hc 0 om);rw[e]at e';injection e' with e';rw[<-e']at hf;rcases hl _ hf with d | d
   ·exact ha.elim (λx=>absurd x c) (λx=>x _ e d)
   ·have:b<w.heap.size:=hlt;have d':z<=b:=d;omega
structure A8 where
 k:Int
 at_:Int
 any:Bool
 id:Int
 P:PT
 a:Option Addr
 n:Nat
 cap:Nat
 ks:List Int
def c8(x:A8):List Value:= .int .u8 x.k:: .int .u8 x.at_:: .bool x.any:: .int .i64 x.id::(pl x.P++[.slice x.a x.n x.cap])
theorem zeJ(ch:List (Int × Int))(id now:Int):(zb8 ch id now).length<=ch.length+1:=by
 unfold zb8;rw[length_append];have:=length_filter_le (λx:Int × Int=>x.1 != id) ch;simp;exact this
theorem zqz(s:Int)(R:TR)(id:Int)(P:PT):(zjq s R id P).length<=R.length+1:=by
 unfold zjq;split
 ·simp
 ·omega
theorem zqA(R:TR)(row:Int):(zd9 R row).length<=R.length:=by
 unfold zd9;split
 ·rw[length_take,length_set];omega
 ·omega
theorem zwz(s:Int)(R:TR)(row:Int)(P:PT):(zhs s R row P).length=R.length:=by
 unfold zhs;split
 ·rw[length_set]
 ·rfl
theorem Bd.mono{m':Nat}(h:Bd S m)(hm:m<=m'):Bd S m':=⟨Nat.le_trans h.1 hm,Nat.le_trans h.2.1 hm,λi hi=>Nat.le_trans (h.2.2.1 i hi) hm,h.2.2.2.1,by have:=h.2.2.2.2.1;omega,h.2.2.2.2.2⟩
theorem zgJ{T:Nat->TR}{R:TR}(h:∀i,i<32->(T i).length<=m)(hR:R.length<=m):∀i,i<32->(upf T k R i).length<=m:=λi hi=>by
 unfold upf
 split
 ·exact hR
 ·exact h i hi
theorem zu9(h:Bd S m)(id:Int)(P:PT):Bd (zdA S id P) (m+1):=by
 cases ha:atS S id with
 | none=>
      have e:zdA S id P=S:=by unfold zdA;rw[ha]
      rw[e];exact h.mono om
 | some i=>
  have hd:zdA S id P={ S with T:=zem S.T i id P,ch:=zb8 S.ch id S.now }:=by unfold zdA;rw[ha]
  rw[hd];obtain⟨hi,_⟩:=zcX ha;refine⟨Nat.le_trans (zeJ _ _ _) (by have:=h.1;omega),Nat.le_trans h.2.1 om,λj hj=> ?_,h.2.2.2.1,by have:=h.2.2.2.2.1;show S.now<=_;omega,h.2.2.2.2.2⟩;have h3:=h.2.2.1;show (zem S.T i id P j).length<=m+1;unfold zem
  split
  ·exact Nat.le_trans (zgJ h3 (by rw[zwz];exact h3 i hi) j hj) om
  ·have h4:=zgJ (k:=i) (R:=zd9 (S.T i) (zaB (S.T i) id)) h3 (Nat.le_trans (zqA _ _) (h3 i hi))
   by_cases c:P.1.toNat<32
   ·exact zgJ (m:=m+1) (λq hq=>Nat.le_trans (h4 q hq) om) (Nat.le_trans (zqz _ _ _ _) (by have:=h4 _ c;omega)) j hj
   ·have e:∀ (A:Nat->TR) B,upf A P.1.toNat B j=A j:=λA B=>by unfold upf;rw[if_neg om]
    rw[e];exact Nat.le_trans (h4 j hj) om
theorem zzP(h:Bd S m):Bd (neS S) (m+1):=
 ⟨Nat.le_trans h.1 om,Nat.le_trans h.2.1 om,λi hi=>Nat.le_trans (h.2.2.1 i hi) om,by have:=h.2.2.2.1;show 0<S.now+1;omega,by have:=h.2.2.2.2.1;show S.now+1<=_;omega,h.2.2.2.2.2⟩
theorem zzQ(h:Bd S m)(P:PT):Bd (spS S P) (m+1):=by
 unfold spS
 split
 ·rename_i he
  obtain⟨hr,_⟩:=zyr he;obtain⟨r1,_⟩:=zdL hr;refine⟨Nat.le_trans (zeJ _ _ _) (by have:=h.1;omega),Nat.le_trans h.2.1 om,?_,h.2.2.2.1,by have:=h.2.2.2.2.1;show S.now<=_;omega,h.2.2.2.2.2⟩;exact zgJ (λq hq=>Nat.le_trans (h.2.2.1 q hq) om) (Nat.le_trans (zqz _ _ _ _) (by have:=h.2.2.1 _ r1;omega))
 ·exact h.mono om
theorem zys(h:Bd S m)(id:Int):Bd (deS S id) (m+1):=by
 cases ha:atS S id with
 | none=>
      have e:deS S id=S:=by unfold deS;rw[ha]
      rw[e];exact h.mono om
 | some i=>
  have hd:deS S id={ S with T:=upf S.T i (zd9 (S.T i) (zaB (S.T i) id)),G:=drG S.G S.L id,L:=drL S.G S.L id,go:=S.go++[(id,S.now)] }:=by unfold deS;rw[ha]
  rw[hd];obtain⟨hi,_⟩:=zcX ha;exact⟨Nat.le_trans h.1 om,by show (S.go++[(id,S.now)]).length<=_;have:=h.2.1;simp;omega,zgJ (λq hq=>Nat.le_trans (h.2.2.1 q hq) om) (Nat.le_trans (zqA _ _) (by have:=h.2.2.1 i hi;omega)),h.2.2.2.1,by have:=h.2.2.2.2.1;show S.now<=_;omega,h.2.2.2.2.2⟩
def ivl:Value->Int
 | .int _ q=>q
 | _=>0
def RowX{α:Type}(k:Nat)(c:α->List Value)(w:World)(a:Option Addr)(n:Nat)(X:List α):Prop:=X.length=n/\n<=9223372036854775807/\(n=0∨∃b off,a=some ⟨b,off,none⟩/\b<w.heap.size/\∀i x,X[i]? =some x->w.rangeAt b (off+i*k) (c x))
section
variable {α:Type} {k:Nat} {c:α->List Value} {w w':World} {a:Option Addr} {n:Nat} {X:List α}
theorem RowX.keep(h:RowX k c w a n X)(hb:Bw w w'):RowX k c w' a n X:=⟨h.1,h.2.1,h.2.2.imp id (λ⟨b,o,e,hl,hr⟩=>⟨b,o,e,Nat.lt_of_lt_of_le hl hb.size,λi x hx=>zaP (hr i x hx) (hb.block b hl)⟩)⟩
theorem RowX.at_(h:RowX k c w a n X){i:Nat}(hi:i<n):∃b off x,a=some ⟨b,off,none⟩/\b<w.heap.size/\X[i]? =some x/\w.rangeAt b (off+i*k) (c x):=by
 obtain⟨h1,h2,h3⟩:=h;rcases h3 with h3 | ⟨b,off,e,hb,hr⟩
 ·omega
 ·have hx:X[i]? =some (X[i]'(by omega)):=getElem?_eq_getElem om;exact⟨b,off,_,e,hb,hx,hr i _ hx⟩
end
def OwnX{α:Type}(k:Nat)(c:α->List Value)(t:TypeId)(w:World)(base:Nat)(v:Value)(X:List α):Prop:=w.ownsRow base t k v X.length (X.flatMap c)
section
variable {α:Type} {k:Nat} {c:α->List Value} {t:TypeId} {w w':World} {base:Nat} {v:Value} {X:List α}
theorem zgK(hc:∀x,(c x).length=k):∀X:List α,(X.flatMap c).length=X.length*k
 | []=>by simp
 | x::X=>by
  rw[flatMap_cons,length_append,hc,zgK hc X,length_cons,Nat.add_mul];omega
theorem ziw(hc:∀x,(c x).length=k):∀ (X:List α) (i:Nat) (x:α),X[i]? =some x->((X.flatMap c).drop (i*k)).take k=c x
 | [],i,x,h=>by simp at h
 | a::X,0,x,h=>by
  simp at h;subst h;rw[flatMap_cons,Nat.zero_mul,drop_zero,<-hc a,take_left]
 | a::X,i+1,x,h=>by
  have ih:=ziw hc X i x (by simpa using h);rw[flatMap_cons,drop_append,hc a,drop_of_length_le (by rw[hc a,Nat.add_mul];omega),nil_append,show (i+1)*k - k=i*k by rw[Nat.add_mul];omega];exact ih
theorem OwnX.nil(k:Nat)(c:α->List Value)(t:TypeId)(w:World)(base:Nat):OwnX k c t w base (.slice none 0 0) []:=World.ownsRow_nil _ _ _ _
theorem OwnX.lt(h:OwnX k c t w base v X):∀b,v.ownBlock=some b->base<=b/\b<w.heap.size:=World.ownsRow.lt h
theorem OwnX.same(h:OwnX k c t w base v X)(he:∀b,v.ownBlock=some b->w'.heap[b]? =w.heap[b]?):OwnX k c t w' base v X:=
 ⟨h.1,h.2.imp id λ⟨g,cap,cur,e,hb,hg,hr⟩=>⟨g,cap,cur,e,hb,(he g (by rw[e];rfl)).trans hg,hr⟩⟩
theorem OwnX.keep(h:OwnX k c t w base v X)(hb:Bw w w'):OwnX k c t w' base v X:=h.same (λb e=>hb.block b (h.lt b e).2)
theorem OwnX.low(h:OwnX k c t w base v X){b':Nat}(hb:b'<=base):OwnX k c t w b' v X:=⟨h.1,h.2.imp id λ⟨g,cap,cur,h1,h2,h3⟩=>⟨g,cap,cur,h1,Nat.le_trans hb h2,h3⟩⟩
theorem OwnX.row(hc:∀x,(c x).length=k)(h:OwnX k c t w base v X):∃a cap,v= .slice a X.length cap/\X.length<=cap/\cap<=maxLen/\RowX k c w a X.length X:=by
 rcases h.2 with ⟨rfl,h0⟩ | ⟨g,cap,cur,rfl,hb,hg,hn,hm,hs,ht⟩
 ·exact⟨none,0,by rw[h0],om,by unfold maxLen;omega,rfl,om,.inl h0⟩
 ·refine⟨_,cap,rfl,hn,hm,rfl,by unfold maxLen at hm;omega,.inr ⟨g,0,rfl,(Array.getElem?_eq_some_iff.1 hg).1,λi x hx=> ?_⟩⟩;have hlt:i<X.length:=(List.getElem?_eq_some_iff.1 hx).1;have kD:Blk w g t cur.toList.toArray:=by unfold Blk;rw[Array.toArray_toList];exact hg
  have h1:=zaF kD (i*k) k;have e:(cur.toList.drop (i*k)).take k=c x:=by
   have h2:(i+1)*k<=X.length*k:=mul_le_mul_right _ hlt;rw[Nat.add_mul]at h2;rw[<-ziw hc X i x hx,<-ht,drop_take,take_take,Nat.min_eq_left om]
  rw[e]at h1;rw[Nat.zero_add];exact h1
theorem zbu{rest:List Oper}{a:Go.Act}(kX:op.guard=none)(ts tb:Operand)(tl:TypeId)(by_:Nat)(z:Value)
  (ho:op.op= .call { callee:= .builtin .append,args:= #[ts,tb],argTypes:= #[tl,tl] })(hu:prog.underlying tl=some (.slice t))
  (Dw:(prog.info? t).map (λi=>(i.zero,i.size,i.bytes))=some (some z,k,by_))(Di:z.cells.size=k)(hk:0<k)(ZV:by_<=1000)(hc:∀x,(c x).length=k)(x:α)(YC:∀u∈c x,u.oneCell'=true)
  (hs:a.eval ts=v)(Hc:OwnX k c t w base v X)(gb:Nat)(cap:Nat)(hx:a.eval tb= .slice (some ⟨gb,0,none⟩) 1 cap)(hb:w.rangeAt gb 0 (c x))(hX:X.length<=2000)(H9:base<=w.heap.size)
  (h:∀v' w',OwnX k c t w' base v' (X++[x])->w.grownBy w' v.ownBlock->(v'.ownBlock=v.ownBlock∨v'.ownBlock=some w.heap.size)->wpList prog ops Q rest (a.put op.dst v') w'):wpList prog ops Q (op::rest) a w:=by
 obtain⟨i0,kB,kQ,kR,kH⟩:=info_parts Dw;have D8:(X.length+1)*by_<=140737488355328:=by
  have:(X.length+1)*by_<=2001*1000:=Nat.mul_le_mul om ZV
  omega
 refine wpList_append_own_at w kX ts tb tl ho base t i0 z k by_ hu kB kQ kR kH Di hk v X.length (X.flatMap c) hs Hc ⟨gb,0,none⟩ 1 cap (c x) hx (by rw[hc x,Nat.one_mul]) (λj u hj=>by
  have:=hb j u hj;rw[Addr.add_lit]
  exact this) YC (by unfold maxLen;omega) D8 H9 ?_
 intro v' w' h1 h2 _ h4;refine h v' w' ?_ h2 h4;unfold OwnX;rw[length_append,flatMap_append];simpa using h1
end
open Go.Shelf
def zix:Go.Shelf.Ren:=⟨fun | 5=>74 | 8=>135 | 7=>134 | 19=>211 | 20=>212 | 10=>202 | 11=>203 | 12=>204 | 13=>205 | 14=>206 | 15=>207 | 16=>208 | 17=>209 | 18=>210 | 30=>256 | 31=>257 | 32=>258 | 33=>259 | 34=>260 | 35=>261 | 40=>288 | n=>n,fun | 23=>35 | 25=>81 | 3=>3 | 32=>226 | 22=>35 | 0=>0 | 44=>295 | 46=>297 | 4=>4 | 36=>289 | 35=>288 | 41=>127 | 5=>5 | 9=>9 | 53=>338 | 57=>342 | 63=>374 | 64=>253 | n=>n,fun | n=>n⟩
theorem zeK:Go.Proofs.SlLaysM.n5 prog zix:={
 mixed:=oM
 f5:=⟨Tryz.f74.name,by decide,func74.trans (congrArg some oM)⟩
 f7:=⟨Tryz.f134.name,by decide,func134.trans (congrArg some oM)⟩
 f8:=func135.trans (congrArg some oM)
 f10:=⟨Tryz.f202.name,by decide,func202.trans (congrArg some oM)⟩
 f11:=⟨Tryz.f203.name,by decide,func203.trans (congrArg some oM)⟩
 f12:=⟨Tryz.f204.name,by decide,func204.trans (congrArg some oM)⟩
 f13:=⟨Tryz.f205.name,by decide,func205.trans (congrArg some oM)⟩
 f14:=⟨Tryz.f206.name,by decide,func206.trans (congrArg some oM)⟩
 f15:=⟨Tryz.f207.name,by decide,func207.trans (congrArg some oM)⟩
 f16:=⟨Tryz.f208.name,by decide,func208.trans (congrArg some oM)⟩
 f17:=⟨Tryz.f209.name,by decide,func209.trans (congrArg some oM)⟩
 f18:=⟨Tryz.f210.name,by decide,func210.trans (congrArg some oM)⟩
 f19:=func211.trans (congrArg some oM)
 f20:=func212.trans (congrArg some oM)
 f30:=⟨Tryz.f256.name,by decide,func256.trans (congrArg some oM)⟩
 f31:=func257.trans (congrArg some oM)
 f32:=func258.trans (congrArg some oM)
 f33:=⟨Tryz.f259.name,by decide,func259.trans (congrArg some oM)⟩
 f34:=⟨Tryz.f260.name,by decide,func260.trans (congrArg some oM)⟩
 f35:=⟨Tryz.f261.name,by decide,func261.trans (congrArg some oM)⟩
 f40:=⟨Tryz.f288.name,by decide,func288.trans (congrArg some oM)⟩
 t0:=underlying0
 a0:=isAgg0
 z0:=sizeOf0
 v0:=zeroValue0
 t3:=underlying3
 a3:=isAgg3
 z3:=sizeOf3
 v3:=zeroValue3
 t4:=underlying4
 a4:=isAgg4
 z4:=sizeOf4
 v4:=zeroValue4
 t5:=underlying5
 a5:=isAgg5
 z5:=sizeOf5
 v5:=zeroValue5
 t9:=underlying9
 a9:=isAgg9
 z9:=sizeOf9
 v9:=zeroValue9
 t22:=underlying35
 a22:=isAgg35
 z22:=sizeOf35
 v22:=zeroValue35
 t23:=underlying35
 a23:=isAgg35
 z23:=sizeOf35
 v23:=zeroValue35
 t25:=underlying81
 a25:=isAgg81
 z25:=sizeOf81
 v25:=zeroValue81
 t32:=underlying226
 a32:=isAgg226
 z32:=sizeOf226
 v32:=zeroValue226
 t35:=underlying288
 a35:=isAgg288
 z35:=sizeOf288
 v35:=zeroValue288
 t36:=underlying289
 a36:=isAgg289
 z36:=sizeOf289
 v36:=zeroValue289
 t41:=underlying127
 a41:=isAgg127
 z41:=sizeOf127
 v41:=zeroValue127
 t44:=underlying295
 a44:=isAgg295
 z44:=sizeOf295
 v44:=zeroValue295
 t46:=underlying297
 a46:=isAgg297
 z46:=sizeOf297
 v46:=zeroValue297
 t53:=underlying338
 a53:=isAgg338
 z53:=sizeOf338
 v53:=zeroValue338
 t57:=underlying342
 a57:=isAgg342
 z57:=sizeOf342
 v57:=zeroValue342
 t63:=underlying374
 a63:=isAgg374
 z63:=sizeOf374
 v63:=zeroValue374
 t64:=underlying253
 a64:=isAgg253
 z64:=sizeOf253
 v64:=zeroValue253 }
def zhx:Go.Shelf.Ren:=⟨fun | 41=>187 | n=>n,fun | 22=>35 | 23=>81 | 4=>4 | n=>n,fun | n=>n⟩
theorem zfn:Go.Proofs.SlLaysN.n41 prog zhx:={
 mixed:=oM
 f41:=⟨Tryz.f187.name,by decide,func187.trans (congrArg some oM)⟩
 t4:=underlying4
 a4:=isAgg4
 z4:=sizeOf4
 v4:=zeroValue4
 t22:=underlying35
 a22:=isAgg35
 z22:=sizeOf35
 v22:=zeroValue35
 t23:=underlying81
 a23:=isAgg81
 z23:=sizeOf81
 v23:=zeroValue81
 i23:=by kernel_rfl }
theorem zmV{x:Int}:∀ (l:List Int),∀y∈l.takeWhile (λy=>decide (y<=x)),y<=x
 | [],y,h=>by cases h
 | a::l,y,h=>by
  rw[takeWhile_cons]at h
  by_cases c:a<=x
  ·rw[decide_eq_true c,if_pos rfl]at h;rcases mem_cons.1 h with rfl | h
   ·exact c
   ·exact zmV l y h
  ·rw[decide_eq_false c]at h
   cases h
theorem ziy{x:Int}:∀ (l:List Int),l.Pairwise (·<=·)->∀y∈l.dropWhile (λy=>decide (y<=x)),x<=y
 | [],_,y,h=>by cases h
 | a::l,hp,y,h=>by
  rw[dropWhile_cons]at h
  by_cases c:a<=x
  ·rw[decide_eq_true c,if_pos rfl]at h;exact ziy l (pairwise_cons.1 hp).2 y h
  ·rw[decide_eq_false c]at h;simp only[Bool.false_eq_true,if_false]at h;rcases mem_cons.1 h with rfl | h
   ·omega
   ·have:=(pairwise_cons.1 hp).1 y h;omega
theorem zot{out:List Int}(h:out.Pairwise (·<=·))(x:Int):(ztd out x).Pairwise (·<=·):=by
 unfold ztd;refine pairwise_append.2 ⟨h.sublist (takeWhile_sublist _),pairwise_cons.2 ⟨ziy out h,h.sublist (dropWhile_sublist _)⟩,λa ha b hb=> ?_⟩;have h1:=zmV out a ha;rcases mem_cons.1 hb with rfl | hb
 ·exact h1
 ·have:=ziy out h b hb;omega
theorem zbP:∀ (l out:List Int),out.Pairwise (·<=·)->(l.foldl ztd out).Pairwise (·<=·)
 | [],_,h=>h
 | x::l,out,h=>zbP l (ztd out x) (zot h x)
theorem zmW{l':List Int}(h:l.Perm l'):l.mergeSort (λx y=>decide (x<=y))=zbW l':=by
 have tr:∀a b c:Int,decide (a<=b)=true->decide (b<=c)=true->decide (a<=c)=true:=λa b c h1 h2=>by simp only[decide_eq_true_eq]at*;omega
 have tt:∀a b:Int,(decide (a<=b) || decide (b<=a))=true:=λa b=>by simp only[Bool.or_eq_true,decide_eq_true_eq];omega
 have hp:(zbW l').Perm l':=by have:=zcJ l' [];rwa [append_nil]at this
 refine List.Perm.eq_of_pairwise (le:=λa b=>decide (a<=b)=true) (λa b _ _ h1 h2=> ?_) (pairwise_mergeSort tr tt l) ((zbP l' [] List.Pairwise.nil).imp (fun {a b} c=>decide_eq_true c)) (((mergeSort_perm l _).trans h).trans hp.symm);simp only[decide_eq_true_eq]at h1 h2;omega
theorem zeL{base:Nat}(h:OwnD w base v n xs)(hn:n<=100000):
  Calls prog 74 #[v] w λe w'=>e= .returned (.tuple #[])/\OwnD w' base v n (xs.mergeSort (λx y=>decide (x<=y)))/\w.grownBy w' v.ownBlock:=by
 have hl:xs.length=n:=by have:=h.1;rw[length_map,Nat.mul_one]at this;exact this
 rcases h.2 with ⟨rfl,h0⟩ | ⟨g,cap,cur,rfl,hb,hg,dh,hm,hs,ht⟩
 ·have hx:xs=[]:=eq_nil_of_length_eq_zero om;subst hx;refine (AnyM.slices_Sort_int_none zeK none 0 w).mono ?_;rintro e w' ⟨rfl,rfl⟩;exact⟨rfl,by simpa using h,⟨rfl,rfl,rfl,Nat.le_refl _,λ_ _ _=>rfl⟩⟩
 ·subst hl;have hH:Go.Sort.Holds encZ w g 0 xs.toArray:=holds_of_block_i hg (by simpa using ht);refine (AnyM.slices_Sort_int zeK g 0 cap xs w hH (Array.getElem?_eq_some_iff.1 hg).1 om).mono ?_;rintro e w' ⟨rfl,nn,os,rfl⟩;exact⟨rfl,ownsRow_sorted_i (by simp) hb hg dh hm (by simpa using hs),grownBy_sorted_i _⟩
theorem LRes.of9{base:Nat}(h:OwnD w' base v n zs)(hw:w.heap.size<=base):LRes w w' zs v:=by
 obtain⟨a,cap,rfl,hr⟩:=h.row;have hl:zs.length=n:=hr.1;subst hl;refine⟨a,cap,rfl,hr,?_⟩;rcases h.2 with ⟨_,h0⟩ | ⟨g,cap',cur,hv,hb,_⟩
 ·exact .inl h0
 ·refine .inr (λad e=> ?_);injection hv with hv _ _;rw[e]at hv;injection hv with hv;rw[hv];exact Nat.le_trans hw hb
theorem zbl{wr:World}{base:Nat}(ho:OwnD wr base v n zs)(hw:w.heap.size<=base)(hb:Bw w wr)(hg:wr.grownBy w' v.ownBlock):Bw w w':=
 ⟨hg.os.trans hb.os,hg.tape.trans hb.tape,hg.output.trans hb.output,Nat.le_trans hb.size hg.size,λk hk=>(hg.block k (Nat.lt_of_lt_of_le hk hb.size) (λe=>by have:=(World.ownsRow.lt ho k e.symm).1;omega)).trans (hb.block k hk)⟩
theorem zqB{K:List Int}(h:l.Perm K)(hK:K.Pairwise (·<·)):l.mergeSort (λx y=>decide (x<=y))=K:=by
 have tr:∀a b c:Int,decide (a<=b)=true->decide (b<=c)=true->decide (a<=c)=true:=λa b c h1 h2=>by simp only[decide_eq_true_eq]at*;omega
 have tt:∀a b:Int,(decide (a<=b) || decide (b<=a))=true:=λa b=>by simp only[Bool.or_eq_true,decide_eq_true_eq];omega
 refine List.Perm.eq_of_pairwise (le:=λa b=>decide (a<=b)=true) (λa b _ _ h1 h2=> ?_) (pairwise_mergeSort tr tt l) (hK.imp (fun {a b} c=>decide_eq_true om)) ((mergeSort_perm l _).trans h);simp only[decide_eq_true_eq]at h1 h2;omega
theorem zgL{rest:List Oper}{a:Go.Act}(kX:op.guard=none)(ts tb:Operand)
  (ho:op.op= .call { callee:= .builtin .append,args:= #[ts,tb],argTypes:= #[35,35] })(base n:Nat)(v:Value)(zs:List Int)(hs:a.eval ts=v)(Hc:OwnD w base v n zs)(x:Option Addr)(m cap:Nat)(ys:List Int)(hx:a.eval tb= .slice x m cap)(row:Row w x m ys)(hn:n<=100000)(hm:m<=100000)(hb:base<=w.heap.size)
  (h:∀v' w',OwnD w' base v' (n+m) (zs++ys)->w.grownBy w' v.ownBlock->wpList prog ops Q rest (a.put op.dst v') w'):wpList prog ops Q (op::rest) a w:=by
 obtain⟨i0,kB,kQ,kR,kH⟩:=info_parts zcr;have hl:ys.length=m:=row.1
 cases x with
 | none=>
  have zR:m=0:=by
   rcases row.2.2 with c | ⟨b,off,e,_⟩
   ·exact c
   ·cases e
  subst zR;have J4:ys=[]:=eq_nil_of_length_eq_zero hl;subst J4;have h2:=h v w (by rw[Nat.add_zero,append_nil];exact Hc) ⟨rfl,rfl,rfl,Nat.le_refl _,λ_ _ _=>rfl⟩;have hr:(Builtin.append_ #[35,35] op.type #[v,.slice none 0 cap]).run prog w= .ok v w:=by
   rcases Hc.2 with ⟨rfl,_⟩ | ⟨g,c,cur,rfl,_,_,ZW,_⟩
   ·simp[Builtin.append_,run_underlying underlying35,sizeOf,typeInfo,kB,Builtin.lenOf,Builtin.firstCells]
   ·simp[Builtin.append_,run_underlying underlying35,sizeOf,typeInfo,kB,Builtin.lenOf,Builtin.firstCells,loadCells,storeCells,ZW]
  refine wpList_plain kX λK hK=> ?_;have h3:=hK _ _ h2;unfold Oper.wp execOp;simp only[ho,resolve,invoke,builtin,Sem.run_bind,Sem.run_pure,Result.andThen_ok,map_toArray,map_cons,map_nil,hs,hx,hr];exact h3
 | some ad=>
  have xw:∀j u,(ys.map (Value.int .i64))[j]? =some u->w.cell? (ad.add j)=some u:=λj u hu=>by
   have hj:j<m:=by have:=(List.getElem?_eq_some_iff.1 hu).1;rw[length_map,hl]at this;exact this
   obtain⟨b,off,y,e,hy,cy⟩:=zch row hj;injection e with e;subst e;rw[Addr.add_mid,cy];rw[getElem?_map,hy]at hu;exact hu
  refine wpList_append_own _ kX ts tb 35 ho base 81 i0 (.int .i64 0) 1 8 underlying35 kB kQ kR kH rfl (by decide) v n (zs.map (Value.int .i64)) hs Hc ad m cap (ys.map (Value.int .i64)) hx (by rw[length_map,hl,Nat.mul_one]) xw (λu hu=>by
   obtain⟨y,_,rfl⟩:=mem_map.1 hu
   rfl) (by unfold maxLen;omega) om hb ?_
  intro v' w' h1 h2 _;refine h v' w' ?_ h2;unfold OwnD;rw[map_append];exact h1
abbrev FT:=List (Int × Int)
def zak(L:FT)(x:Int):Option Int:=(L.find? (λp=>p.1==x)).map Prod.snd
def zaG(L:FT)(x:Int):FT:=L.filter (λp=>p.1 != x)
def setF(L:FT)(c p:Int):FT:=zaG L c++[(c,p)]
def IsA(L:FT):Int->List Int->Prop
 | x,[]=>zak L x=none
 | x,y::l=>zak L x=some y/\IsA L y l
def zx0(L:FT):Nat->Int->List Int
 | 0,_=>[]
 | n+1,x=>match zak L x with
  | none=>[]
  | some y=>y::zx0 L n y
def abv(L:FT)(x:Int):List Int:=zx0 L L.length x
def WF(L:FT):Prop:=(L.map Prod.fst).Nodup/\∀x,∃l,IsA L x l
theorem IsA.uniq{L:FT}:∀ {x:Int} {l l':List Int},IsA L x l->IsA L x l'->l=l'
 | _,[],[],_,_=>rfl
 | _,[],_::_,h,h'=>absurd ((show zak L _=none from h).symm.trans h'.1) (by simp)
 | _,_::_,[],h,h'=>absurd ((show zak L _=none from h').symm.trans h.1) (by simp)
 | _,y::l,z::l',h,h'=>by
  have e:y=z:=by have:=h.1.symm.trans h'.1;injection this
  subst e;rw[IsA.uniq h.2 h'.2]
theorem IsA.rest{L:FT}:∀ {x:Int} {l:List Int},IsA L x l->∀y∈l,∃l',IsA L y l'/\l'.length<l.length
 | _,[],_,y,hy=>by cases hy
 | _,z::l,h,y,hy=>by
  rcases mem_cons.1 hy with rfl | hy
  ·exact⟨l,h.2,by simp⟩
  ·obtain⟨l',h1,h2⟩:=IsA.rest h.2 y hy;exact⟨l',h1,by rw[length_cons];omega⟩
theorem IsA.self{L:FT}(h:IsA L x l):x∉l:=λhx=>by
 obtain⟨l',h1,h2⟩:=h.rest x hx;rw[h.uniq h1]at h2;omega
theorem IsA.nodup{L:FT}:∀ {x:Int} {l:List Int},IsA L x l->l.Nodup
 | _,[],_=>nodup_nil
 | _,_::_,h=>nodup_cons.2 ⟨h.2.self,h.2.nodup⟩
theorem zbo{L:FT}(h:zak L x=some y):(x,y)∈L:=by
 unfold zak at h
 cases hf:L.find? (λp=>p.1==x) with
 | none=>rw[hf]at h;cases h
 | some q=>
  rw[hf]at h;injection h with h;have h1:=find?_some hf;have h2:=mem_of_find?_eq_some hf;obtain⟨a,b⟩:=q;simp at h1 h;rw[<-h1,<-h];exact h2
theorem zcG{L:FT}(hn:(L.map Prod.fst).Nodup){x y:Int}(h:(x,y)∈L):zak L x=some y:=by
 induction L with
 | nil=>cases h
 | cons q L ih=>
  obtain⟨a,b⟩:=q;rw[map_cons,nodup_cons]at hn;unfold zak;rw[find?_cons];rcases mem_cons.1 h with e | h
  ·injection e with e1 e2;rw[e1,e2];simp
  ·have Ho:a≠x:=λe=>hn.1 (e ▸ mem_map.2 ⟨_,h,rfl⟩);rw[show ((a,b).1==x)=false by simpa using Ho];exact ih hn.2 h
theorem zeb:∀ {l m:List Int},l.Nodup->(∀x∈l,x∈m)->l.length<=m.length
 | [],_,_,_=>zero_le _
 | x::l,m,hn,hs=>by
  rw[nodup_cons]at hn;have hx:=hs x mem_cons_self;have h1:=zeb (l:=l) (m:=m.erase x) hn.2 (λy hy=>(mem_erase_of_ne (λe=>hn.1 (by rw[<-e];exact hy))).2 (hs y (mem_cons_of_mem _ hy)));rw[length_erase_of_mem hx]at h1;have:=length_pos_of_mem hx;rw[length_cons];omega
theorem IsA.child{L:FT}:∀ {x:Int} {l:List Int},IsA L x l->∀y∈(x::l).dropLast,y∈L.map Prod.fst
 | _,[],_,y,hy=>by cases hy
 | x,z::l,h,y,hy=>by
  rw[dropLast_cons_of_ne_nil (by simp)]at hy;rcases mem_cons.1 hy with rfl | hy
  ·exact mem_map.2 ⟨_,zbo h.1,rfl⟩
  ·exact h.2.child y hy
theorem IsA.len{L:FT}(h:IsA L x l):l.length<=L.length:=by
 have h1:(x::l).dropLast.Nodup:=List.Nodup.sublist (dropLast_sublist _) (nodup_cons.2 ⟨h.self,h.nodup⟩);have h2:=zeb h1 h.child;rw[length_dropLast,length_cons,length_map]at h2;omega
theorem IsA.fuel{L:FT}:∀ {x:Int} {l:List Int} {n:Nat},IsA L x l->l.length<=n->zx0 L n x=l
 | _,[],0,_,_=>rfl
 | _,[],n+1,h,_=>by unfold zx0;rw[show zak L _=none from h]
 | _,_::_,0,_,hn=>by simp at hn
 | _,y::l,n+1,h,hn=>by
  unfold zx0;rw[h.1];show y::zx0 L n y=y::l;rw[h.2.fuel (by rw[length_cons]at hn;omega)]
theorem WF.isA{L:FT}(h:WF L)(x:Int):IsA L x (abv L x):=by
 obtain⟨l,hl⟩:=h.2 x;unfold abv;rw[hl.fuel hl.len];exact hl
theorem zeM{L:FT}(h:WF L){x:Int}(hp:zak L x=none):abv L x=[]:=(h.isA x).uniq (show IsA L x [] from hp)
theorem za0{L:FT}(h:WF L){x y:Int}(hp:zak L x=some y):abv L x=y::abv L y:=(h.isA x).uniq ⟨hp,h.isA y⟩
theorem zlw{L:FT}(h:WF L)(x:Int):(abv L x).length<=L.length:=(h.isA x).len
theorem za7(L:FT)(c z:Int):zak (zaG L c) z=if z=c then none else zak L z:=by
 unfold zak zaG;rw[find?_filter]
 by_cases e:z=c
 ·subst e;rw[if_pos rfl]
  have:L.find? (λa=>a.1 != z && a.1==z)=none:=find?_eq_none.2 (λa _=>by
   by_cases q:a.1=z
   ·simp[q]
   ·simp[q])
  have e2:(λa:Int × Int=>decide ((a.1 != z)=true/\(a.1==z)=true))=(λa=>a.1 != z && a.1==z):=by
   funext a;by_cases q:a.1=z <;> simp[q]
  first | rw[e2,this] | rw[this]
  rfl
 ·rw[if_neg e];congr 1;apply congrArg (λf=>L.find? f);funext a
  by_cases q:a.1=z
  ·have:a.1≠c:=λk=>e (q ▸ k);simp[q,e]
  ·simp[q]
theorem ztg(L:FT)(c:Int):∀x∈(zaG L c).map Prod.fst,x≠c:=λx hx=>by
 obtain⟨p,hp,rfl⟩:=mem_map.1 hx;unfold zaG at hp;rw[mem_filter]at hp;simpa using hp.2
theorem zbM{L:FT}(h:(L.map Prod.fst).Nodup)(c:Int):((zaG L c).map Prod.fst).Nodup:=List.Nodup.sublist (List.Sublist.map _ filter_sublist) h
theorem zbX(L:FT)(c p z:Int):zak (setF L c p) z=if z=c then some p else zak L z:=by
 have h:=za7 L c z;unfold zak at h ⊢;unfold setF;rw[find?_append]
 by_cases e:z=c
 ·rw[if_pos e]at h ⊢;have:(zaG L c).find? (λp=>p.1==z)=none:=by
   cases q:(zaG L c).find? (λp=>p.1==z) with
   | none=>rfl
   | some v=>rw[q]at h;cases h
  rw[this,e];simp
 ·rw[if_neg e]at h ⊢
  cases q:(zaG L c).find? (λp=>p.1==z) with
  | none=>
   rw[q]at h;have:([(c,p)]:FT).find? (λp=>p.1==z)=none:=by simp[Ne.symm e]
   rw[this];exact h
  | some v=>rw[q]at h;exact h
theorem zgM{L:FT}(h:(L.map Prod.fst).Nodup)(c p:Int):((setF L c p).map Prod.fst).Nodup:=by
 unfold setF;rw[map_append];exact nodup_append.2 ⟨zbM h c,by simp,λa ha b hb e=>by simp at hb;exact ztg L c a ha (e.trans hb)⟩
theorem WF.nil:WF []:=⟨by simp,λ_=>⟨[],rfl⟩⟩
theorem WF.free{L:FT}(h:WF L)(c:Int):WF (zaG L c):=by
 refine⟨zbM h.1 c,λx=> ?_⟩;obtain⟨l,hl⟩:=h.2 x
 induction l generalizing x with
 | nil=>exact⟨[],by show zak _ _=none;rw[za7];split <;> first | rfl | exact hl⟩
 | cons y l ih=>
  by_cases e:x=c
  ·exact⟨[],by show zak _ _=none;rw[za7,if_pos e]⟩
  ·obtain⟨l',h'⟩:=ih y hl.2;exact⟨y::l',by rw[za7,if_neg e];exact hl.1,h'⟩
theorem IsA.away{L:FT} :∀ {x:Int} {l:List Int},IsA L x l->x≠c->c∉l->IsA (setF L c p) x l
 | x,[],h,hx,_=>by show zak _ _=none;rw[zbX,if_neg hx];exact h
 | x,y::l,h,hx,hc=>⟨by rw[zbX,if_neg hx];exact h.1,h.2.away (λe=>hc (by rw[e];exact mem_cons_self)) (λk=>hc (mem_cons_of_mem _ k))⟩
theorem WF.set{L:FT}(h:WF L){c p:Int}(Ho:c≠p)(hc:c∉abv L p):WF (setF L c p):=by
 have hp:IsA (setF L c p) p (abv L p):=(h.isA p).away (λe=>Ho e.symm) hc;refine⟨zgM h.1 c p,λx=> ?_⟩;obtain⟨l,hl⟩:=h.2 x
 induction l generalizing x with
 | nil=>
  by_cases e:x=c
  ·exact⟨p::abv L p,by rw[zbX,if_pos e],hp⟩
  ·exact⟨[],by show zak _ _=none;rw[zbX,if_neg e];exact hl⟩
 | cons y l ih=>
  by_cases e:x=c
  ·exact⟨p::abv L p,by rw[zbX,if_pos e],hp⟩
  ·obtain⟨l',h'⟩:=ih y hl.2;exact⟨y::l',by rw[zbX,if_neg e];exact hl.1,h'⟩
def chF(L:FT)(x:Int):List Int:=zbW ((L.filter (λp=>p.2==x)).map Prod.fst)
theorem za4(l:List Int):(zbW l).Perm l:=by have:=zcJ l [];rwa [append_nil]at this
theorem zaA{L:FT}(hn:(L.map Prod.fst).Nodup){x z:Int}:z∈chF L x↔zak L z=some x:=by
 unfold chF;rw[(za4 _).mem_iff,mem_map];constructor
 ·rintro⟨⟨a,b⟩,hp,rfl⟩;rw[mem_filter]at hp;have e:b=x:=by simpa using hp.2
  rw[<-e];exact zcG hn hp.1
 ·intro h;exact⟨_,mem_filter.2 ⟨zbo h,by simp⟩,rfl⟩
theorem zqC{L:FT}(hn:(L.map Prod.fst).Nodup)(x:Int):(chF L x).Nodup:=(za4 _).nodup_iff.2 (List.Nodup.sublist (List.Sublist.map _ filter_sublist) hn)
theorem zen(L:FT)(x:Int):(chF L x).length<=L.length:=by
 unfold chF;rw[(za4 _).length_eq,length_map];exact length_filter_le _ _
def zgN(L:FT):Nat->Int->List Int
 | 0,x=>[x]
 | n+1,x=>x::(chF L x).flatMap (zgN L n)
def hgt(L:FT):Nat->Int->Prop
 | 0,x=>chF L x=[]
 | n+1,x=>∀c∈chF L x,hgt L n c
def beh(L:FT)(x:Int):List Int:=zgN L L.length x
theorem zva{L:FT}(h:WF L):∀ (n:Nat) (x:Int),L.length<=(abv L x).length+n->hgt L n x
 | 0,x,hd=>by
  show chF L x=[]
  cases hc:chF L x with
  | nil=>rfl
  | cons c r=>
   have hm:c∈chF L x:=by rw[hc];exact mem_cons_self
   have h1:=za0 h ((zaA h.1).1 hm);have h2:=zlw h c;rw[h1,length_cons]at h2;omega
 | n+1,x,hd=>λc hm=>by
  have h1:=za0 h ((zaA h.1).1 hm);exact zva h n c (by rw[h1,length_cons];omega)
theorem ziz{L:FT}(h:WF L)(x:Int):hgt L L.length x:=zva h _ _ om
theorem zca{f g:Int->List Int}:∀ {l:List Int},(∀x∈l,f x=g x)->l.flatMap f=l.flatMap g
 | [],_=>rfl
 | x::l,h=>by rw[flatMap_cons,flatMap_cons,h x mem_cons_self,zca (λy hy=>h y (mem_cons_of_mem _ hy))]
theorem zqD{L:FT}:∀ (n:Nat) (x:Int),hgt L n x->zgN L (n+1) x=zgN L n x
 | 0,x,h=>by show x::(chF L x).flatMap _=[x];rw[show chF L x=[] from h];rfl
 | n+1,x,h=>by
  show x::(chF L x).flatMap (zgN L (n+1))=x::(chF L x).flatMap (zgN L n);rw[zca (λc hc=>zqD n c (h c hc))]
theorem zvc{L:FT}:∀ (n:Nat) (x:Int),hgt L n x->hgt L (n+1) x
 | 0,x,h=>λc hc=>by rw[show chF L x=[] from h]at hc;cases hc
 | n+1,x,h=>λc hc=>zvc n c (h c hc)
theorem zqE{L:FT}(h:WF L)(x:Int):beh L x=x::(chF L x).flatMap (beh L):=by
 have h1:=zqD L.length x (ziz h x);unfold beh;rw[<-h1];rfl
theorem zd5{L:FT}(h:WF L):∀ (n:Nat) (x:Int),hgt L n x->∀z,z∈zgN L n x↔z=x∨x∈abv L z
 | 0,x,hh,z=>by
  show z∈[x]↔_;rw[mem_singleton];refine⟨.inl,λhz=>hz.elim id (λhz=> ?_)⟩;exfalso;have key:∀ (l:List Int) (y:Int),IsA L y l->x∈l->∃c,zak L c=some x:=by
   intro l
   induction l with
   | nil=>intro y _ hx;cases hx
   | cons a l ih=>
    intro y hy hx;rcases mem_cons.1 hx with e | hx
    ·exact⟨y,by rw[e];exact hy.1⟩
    ·exact ih a hy.2 hx
  obtain⟨c,hc⟩:=key _ z (h.isA z) hz;have:=(zaA h.1).2 hc;rw[show chF L x=[] from hh]at this
  cases this
 | n+1,x,hh,z=>by
  show z∈x::(chF L x).flatMap (zgN L n)↔_;rw[mem_cons,mem_flatMap];refine or_congr Iff.rfl ⟨?_,λhz=> ?_⟩
  ·rintro⟨c,hc,hz⟩;have hp:=(zaA h.1).1 hc;have e1:=za0 h hp;rcases (zd5 h n c (hh c hc) z).1 hz with rfl | hz
   ·rw[e1];exact mem_cons_self
   ·have key:∀ (l:List Int) (y:Int),IsA L y l->c∈l->x∈l:=by
     intro l
     induction l with
     | nil=>intro y _ hx;cases hx
     | cons a l ih=>
      intro y hy hx;rcases mem_cons.1 hx with e | hx
      ·subst e;have:l=abv L c:=hy.2.uniq (h.isA c);rw[this,e1];exact mem_cons_of_mem _ mem_cons_self
      ·exact mem_cons_of_mem _ (ih a hy.2 hx)
    exact key _ z (h.isA z) hz
  ·have key:∀ (l:List Int) (y:Int),IsA L y l->x∈l->∃c,zak L c=some x/\(y=c∨c∈l):=by
    intro l
    induction l with
    | nil=>intro y _ hx;cases hx
    | cons a l ih=>
     intro y hy hx;rcases mem_cons.1 hx with e | hx
     ·exact⟨y,by rw[e];exact hy.1,.inl rfl⟩
     ·obtain⟨c,h1,h2⟩:=ih a hy.2 hx;exact⟨c,h1,.inr (h2.elim (λe=>by rw[e];exact mem_cons_self) (mem_cons_of_mem _))⟩
   obtain⟨c,hc,dj⟩:=key _ z (h.isA z) hz;have hm:=(zaA h.1).2 hc;exact⟨c,hm,(zd5 h n c (hh c hm) z).2 (dj.imp id id)⟩
theorem ziA{L:FT}(h:WF L){x z:Int}:z∈beh L x↔z=x∨x∈abv L z:=zd5 h _ x (ziz h x) z
theorem zqF{L:FT}(h:WF L){a b z:Int}(ha:a∈z::abv L z)(hb:b∈z::abv L z):a=b∨a∈abv L b∨b∈abv L a:=by
 have key:∀ (l:List Int) (y:Int),IsA L y l->a∈y::l->b∈y::l->a=b∨a∈abv L b∨b∈abv L a:=by
  intro l
  induction l with
  | nil=>
   intro y _ h1 h2;rw[mem_singleton]at h1 h2;exact .inl (h1.trans h2.symm)
  | cons c l ih=>
   intro y hy h1 h2;have e:abv L y=c::l:=(h.isA y).uniq hy;rcases mem_cons.1 h1 with k1 | k1
   ·rcases mem_cons.1 h2 with k2 | k2
    ·exact .inl (k1.trans k2.symm)
    ·exact .inr (.inr (by rw[k1,e];exact k2))
   ·rcases mem_cons.1 h2 with k2 | k2
    ·exact .inr (.inl (by rw[k2,e];exact k1))
    ·exact ih c hy.2 k1 k2
 exact key _ z (h.isA z) ha hb
theorem zeN{L:FT}(h:WF L){a b c:Int}(h1:a∈abv L b)(h2:b∈abv L c):a∈abv L c:=by
 have key:∀ (l:List Int) (y:Int),IsA L y l->b∈l->a∈l:=by
  intro l
  induction l with
  | nil=>intro y _ hx;cases hx
  | cons d l ih=>
   intro y hy hx;rcases mem_cons.1 hx with e | hx
   ·subst e;have:l=abv L b:=hy.2.uniq (h.isA b);rw[this];exact mem_cons_of_mem _ h1
   ·exact mem_cons_of_mem _ (ih d hy.2 hx)
 exact key _ c (h.isA c) h2
theorem zfo{L:FT}(h:WF L)(x:Int):x∉abv L x:=(h.isA x).self
theorem zqG{L:FT}(h:WF L){a b z:Int}(Ho:a≠b)(h1:a∉abv L b)(h2:b∉abv L a)(ha:z∈beh L a):z∉beh L b:=λhb=>by
 rw[ziA h]at ha hb;have w1:a∈z::abv L z:=ha.elim (λe=>by rw[e];exact mem_cons_self) (mem_cons_of_mem _);have w2:b∈z::abv L z:=hb.elim (λe=>by rw[e];exact mem_cons_self) (mem_cons_of_mem _);rcases zqF h w1 w2 with e | e | e
 ·exact Ho e
 ·exact h1 e
 ·exact h2 e
theorem zmX{f:Int->List Int}:∀ {l:List Int},l.Nodup->(∀x∈l,(f x).Nodup)->(∀x∈l,∀y∈l,x≠y->∀z∈f x,z∉f y)->(l.flatMap f).Nodup
 | [],_,_,_=>nodup_nil
 | x::l,hn,h1,h2=>by
  rw[nodup_cons]at hn;rw[flatMap_cons];refine nodup_append.2 ⟨h1 x mem_cons_self,zmX hn.2 (λy hy=>h1 y (mem_cons_of_mem _ hy)) (λy hy z hz=>h2 y (mem_cons_of_mem _ hy) z (mem_cons_of_mem _ hz)),λa ha b hb e=> ?_⟩;subst e;obtain⟨y,hy,hz⟩:=mem_flatMap.1 hb;exact h2 x mem_cons_self y (mem_cons_of_mem _ hy) (λe=>hn.1 (e ▸ hy)) a ha hz
theorem zjR{L:FT}(h:WF L){x a b:Int}(ha:zak L a=some x)(hb:zak L b=some x):a∉abv L b:=λhm=>by
 rw[za0 h hb]at hm;have hx:x∈abv L a:=by rw[za0 h ha];exact mem_cons_self
 rcases mem_cons.1 hm with e | hm
 ·subst e;exact zfo h a hx
 ·exact zfo h x (zeN h hx hm)
theorem zmY{L:FT}(h:WF L):∀ (n:Nat) (x:Int),hgt L n x->(zgN L n x).Nodup
 | 0,x,_=>by show [x].Nodup;simp
 | n+1,x,hh=>by
  show (x::(chF L x).flatMap (zgN L n)).Nodup;refine nodup_cons.2 ⟨λhm=> ?_,zmX (zqC h.1 x) (λc hc=>zmY h n c (hh c hc)) (λa ha b hb Ho z hz ZX=> ?_)⟩
  ·obtain⟨c,hc,hz⟩:=mem_flatMap.1 hm;have e1:=za0 h ((zaA h.1).1 hc);have hx:x∈abv L c:=by rw[e1];exact mem_cons_self
   rcases (zd5 h n c (hh c hc) x).1 hz with e | e
   ·rw[<-e]at hx;exact zfo h x hx
   ·exact zfo h x (zeN h hx e)
  ·have pa:=(zaA h.1).1 ha;have pb:=(zaA h.1).1 hb;have w1:=(zd5 h n a (hh a ha) z).1 hz;have w2:=(zd5 h n b (hh b hb) z).1 ZX;have k1:a∈z::abv L z:=w1.elim (λe=>by rw[e];exact mem_cons_self) (mem_cons_of_mem _);have k2:b∈z::abv L z:=w2.elim (λe=>by rw[e];exact mem_cons_self) (mem_cons_of_mem _);rcases zqF h k1 k2 with e | e | e
   ·exact Ho e
   ·exact zjR h pa pb e
   ·exact zjR h pb pa e
theorem zwA{L:FT}(h:WF L)(x:Int):(beh L x).Nodup:=zmY h _ x (ziz h x)
theorem zlx{L:FT}(h:WF L){x z:Int}(hz:x∈abv L z):z∈L.map Prod.fst:=by
 cases hp:zak L z with
 | none=>rw[zeM h hp]at hz;cases hz
 | some y=>exact mem_map.2 ⟨_,zbo hp,rfl⟩
def zwB(L:FT)(ns:List Int)(i:Nat):Bool:=(decide (i=0) || decide (ns.getD i 0≠ns.getD (i - 1) 0)) && (abv L (ns.getD i 0)).all (λa=> !decide (a∈ns))
def zvd(L:FT)(ns:List Int)(k:Nat):List Int:=(range k).flatMap λi=>if zwB L ns i then beh L (ns.getD i 0) else []
def zfK(L:FT)(l:List Int):List Int:=zvd L (zbW l) (zbW l).length
theorem zth{L:FT}   :z∈zvd L ns k↔∃i,i<k/\zwB L ns i=true/\z∈beh L (ns.getD i 0):=by
 unfold zvd;rw[mem_flatMap];constructor
 ·rintro⟨i,hi,hz⟩
  by_cases c:zwB L ns i=true
  ·rw[if_pos c]at hz;exact⟨i,mem_range.1 hi,c,hz⟩
  ·rw[if_neg c]at hz
   cases hz
 ·rintro⟨i,hi,c,hz⟩;exact⟨i,mem_range.2 hi,by rw[if_pos c];exact hz⟩
theorem zmZ{L:FT}(h:zwB L ns i=true):(i=0∨ns.getD i 0≠ns.getD (i - 1) 0)/\∀a∈abv L (ns.getD i 0),a∉ns:=by
 unfold zwB at h;rw[Bool.and_eq_true,Bool.or_eq_true,decide_eq_true_eq,decide_eq_true_eq,all_eq_true]at h;exact⟨h.1,λa ha=>by simpa using h.2 a ha⟩
theorem zeO(hi:i<ns.length):ns.getD i 0∈ns:=by
 rw[getD,getElem?_eq_getElem hi];exact getElem_mem hi
theorem ziB{ns:List Int}:∀ (i:Nat),i<ns.length->∃j,j<ns.length/\ns.getD j 0=ns.getD i 0/\(j=0∨ns.getD j 0≠ns.getD (j - 1) 0)
 | 0,hi=>⟨0,hi,rfl,.inl rfl⟩
 | i+1,hi=>by
  by_cases c:ns.getD (i+1) 0=ns.getD i 0
  ·obtain⟨j,h1,h2,h3⟩:=ziB (ns:=ns) i om;exact⟨j,h1,h2.trans c.symm,h3⟩
  ·exact⟨i+1,hi,rfl,.inr (by rw[show i+1 - 1=i by omega];exact c)⟩
theorem zqH{L:FT}(h:WF L){ns:List Int}:∀ (n:Nat) (x:Int),(abv L x).length<=n->x∈ns->∃t∈ns,(t=x∨t∈abv L x)/\∀a∈abv L t,a∉ns
 | 0,x,hn,hx=>⟨x,hx,.inl rfl,λa ha=>by rw[eq_nil_of_length_eq_zero (Nat.le_zero.1 hn)]at ha;cases ha⟩
 | n+1,x,hn,hx=>by
  by_cases c:∃a∈abv L x,a∈ns
  ·obtain⟨a,ha,hm⟩:=c;obtain⟨l',h1,h2⟩:=(h.isA x).rest a ha;have e:l'=abv L a:=h1.uniq (h.isA a);obtain⟨t,t1,t2,t3⟩:=zqH h n a (by rw[<-e];omega) hm;exact⟨t,t1,.inr (t2.elim (λq=>by rw[q];exact ha) (λq=>zeN h q ha)),t3⟩
  ·exact⟨x,hx,.inl rfl,λa ha hm=>c ⟨a,ha,hm⟩⟩
theorem zm0{L:FT}(h:WF L){ns:List Int}{z:Int}:z∈zvd L ns ns.length↔∃x∈ns,z=x∨x∈abv L z:=by
 rw[zth];constructor
 ·rintro⟨i,hi,_,hz⟩;exact⟨_,zeO hi,(ziA h).1 hz⟩
 ·rintro⟨x,hx,hz⟩;obtain⟨t,t1,t2,t3⟩:=zqH h (abv L x).length x (Nat.le_refl _) hx;obtain⟨i,hi,e⟩:=mem_iff_getElem.1 t1;obtain⟨j,hj,ej,zL⟩:=ziB (ns:=ns) i hi;have et:ns.getD j 0=t:=by rw[ej,getD,getElem?_eq_getElem hi];exact e
  refine⟨j,hj,?_,?_⟩
  ·unfold zwB;rw[et,Bool.and_eq_true,Bool.or_eq_true,decide_eq_true_eq,decide_eq_true_eq,all_eq_true];exact⟨by rw[et]at zL;exact zL,λa ha=>by simpa using t3 a ha⟩
  ·rw[et];refine (ziA h).2 ?_;rcases hz with rfl | hz
   ·rcases t2 with q | q
    ·exact .inl q.symm
    ·exact .inr q
   ·rcases t2 with q | q
    ·rw[q];exact .inr hz
    ·exact .inr (zeN h q hz)
theorem zga{L:FT}(h:WF L){l:List Int}{z:Int}:z∈zfK L l↔∃x∈l,z=x∨x∈abv L z:=by
 unfold zfK;rw[zm0 h];constructor
 ·rintro⟨x,hx,hz⟩;exact⟨x,(za4 l).mem_iff.1 hx,hz⟩
 ·rintro⟨x,hx,hz⟩;exact⟨x,(za4 l).mem_iff.2 hx,hz⟩
theorem zly{f:Nat->List Int}{p:Nat->Bool}:∀l:List Nat,(l.flatMap λi=>if p i then f i else [])=(l.filter p).flatMap f
 | []=>rfl
 | i::l=>by
  rw[flatMap_cons,zly l]
  by_cases c:p i=true
  ·rw[if_pos c,filter_cons_of_pos c,flatMap_cons]
  ·rw[if_neg c,filter_cons_of_neg c,nil_append]
theorem zjS{f:Nat->List Int}:∀ {l:List Nat},l.Nodup->(∀x∈l,(f x).Nodup)->(∀x∈l,∀y∈l,x≠y->∀z∈f x,z∉f y)->(l.flatMap f).Nodup
 | [],_,_,_=>nodup_nil
 | x::l,hn,h1,h2=>by
  rw[nodup_cons]at hn;rw[flatMap_cons];refine nodup_append.2 ⟨h1 x mem_cons_self,zjS hn.2 (λy hy=>h1 y (mem_cons_of_mem _ hy)) (λy hy z hz=>h2 y (mem_cons_of_mem _ hy) z (mem_cons_of_mem _ hz)),λa ha b hb e=> ?_⟩;subst e;obtain⟨y,hy,hz⟩:=mem_flatMap.1 hb;exact h2 x mem_cons_self y (mem_cons_of_mem _ hy) (λe=>hn.1 (e ▸ hy)) a ha hz
theorem zgO(hs:ns.Pairwise (·<=·)){i j:Nat}(X5:i<=j)(hj:j<ns.length):ns.getD i 0<=ns.getD j 0:=by
 have hi:i<ns.length:=om;rw[getD,getD,getElem?_eq_getElem hi,getElem?_eq_getElem hj]
 by_cases c:i=j
 ·subst c;exact Int.le_refl _
 ·exact List.pairwise_iff_getElem.1 hs i j hi hj om
theorem zqI{L:FT}(h:WF L){ns:List Int}(hs:ns.Pairwise (·<=·)):(zvd L ns ns.length).Nodup:=by
 unfold zvd;rw[zly];refine zjS (List.Nodup.sublist filter_sublist nodup_range) (λi _=>zwA h _) (λi hi j hj Ho z hz=> ?_);rw[mem_filter,mem_range]at hi hj;have s1:=zmZ hi.2;have s2:=zmZ hj.2;have J5:ns.getD i 0≠ns.getD j 0:=by
  have key:∀a b,a<b->b<ns.length->(b=0∨ns.getD b 0≠ns.getD (b - 1) 0)->ns.getD a 0≠ns.getD b 0:=λa b hab hb ht e=>by
   rcases ht with q | q
   ·omega
   ·have k1:=zgO hs (show a<=b - 1 by omega) om;have k2:=zgO hs (show b - 1<=b by omega) hb;omega
  rcases Nat.lt_or_gt_of_ne Ho with q | q
  ·exact key i j q hj.1 s2.1
  ·exact λe=>key j i q hi.1 s1.1 e.symm
 exact zqG h J5 (λk=>s2.2 _ k (zeO hi.1)) (λk=>s1.2 _ k (zeO hj.1)) hz
theorem zwC{L:FT}(h:WF L){ns:List Int}(hs:ns.Pairwise (·<=·)):(zvd L ns ns.length).length<=ns.length+L.length:=by
 have:=zeb (m:=ns++L.map Prod.fst) (zqI h hs) (λz hz=>by
  obtain⟨x,hx,hz⟩:=(zm0 h).1 hz;rcases hz with rfl | hz
  ·exact mem_append_left _ hx
  ·exact mem_append_right _ (zlx h hz))
 rwa [length_append,length_map]at this
def zbq(L:FT)(c p:Int):Int:=if c∈abv L p∨c=p then 8 else 0
def zbD(L:FT)(c p:Int):FT:=if zbq L c p=0 then setF L c p else L
def zay(L:FT)(xs:List Int):FT:=xs.foldl zaG L
def frN(L:FT):List Int->Nat
 | []=>0
 | x::xs=>(if (zak L x).isSome then 1 else 0)+frN (zaG L x) xs
def zcK(L:FT)(x:Int):FT:=zay (zaG L x) (chF L x)
theorem zqJ{L:FT}(h:zbq L c p=0):c∉abv L p/\c≠p:=by
 unfold zbq at h
 by_cases q:c∈abv L p∨c=p
 ·rw[if_pos q]at h;omega
 ·exact⟨λa=>q (.inl a),λa=>q (.inr a)⟩
theorem WF.set9{L:FT}(h:WF L)(c p:Int):WF (zbD L c p):=by
 unfold zbD
 by_cases q:zbq L c p=0
 ·rw[if_pos q];exact h.set (zqJ q).2 (zqJ q).1
 ·rw[if_neg q];exact h
theorem WF.frees:∀ (xs:List Int) {L:FT},WF L->WF (zay L xs)
 | [],_,h=>h
 | x::xs,_,h=>WF.frees xs (h.free x)
theorem WF.drop{L:FT}(h:WF L)(x:Int):WF (zcK L x):=WF.frees _ (h.free x)
theorem zeP(L:FT)(x:Int):(zaG L x).length<=L.length:=length_filter_le _ _
theorem zdM:∀ (xs:List Int) (L:FT),(zay L xs).length<=L.length
 | [],_=>Nat.le_refl _
 | x::xs,L=>Nat.le_trans (zdM xs (zaG L x)) (zeP L x)
theorem zou{L:FT}(h:xs[k]? =some x):zay L (xs.take (k+1))=zaG (zay L (xs.take k)) x:=by
 unfold zay;rw[take_add_one,h,foldl_append];rfl
theorem zm1:∀ {xs:List Int} {L:FT} {k:Nat} {x:Int},xs[k]? =some x->frN L (xs.take (k+1))=frN L (xs.take k)+(if (zak (zay L (xs.take k)) x).isSome then 1 else 0)
 | [],_,_,_,h=>by simp at h
 | a::xs,L,0,x,h=>by
  simp at h;subst h;show (if (zak L a).isSome then 1 else 0)+0=0+_
  rw[Nat.add_zero,Nat.zero_add];rfl
 | a::xs,L,k+1,x,h=>by
  have ih:=zm1 (xs:=xs) (L:=zaG L a) (k:=k) (x:=x) (by simpa using h);rw[take_succ_cons,take_succ_cons];show _+frN (zaG L a) (xs.take (k+1))=_+frN (zaG L a) (xs.take k)+_;rw[ih,Nat.add_assoc];rfl
theorem zve:∀ (xs:List Int) (L:FT),frN L xs<=xs.length
 | [],_=>Nat.le_refl _
 | x::xs,L=>by
  have:=zve xs (zaG L x);show (if (zak L x).isSome then 1 else 0)+frN (zaG L x) xs<=xs.length+1
  split <;> omega
end Go.Proofs.YtlibdcmcbinfnaaGreat
