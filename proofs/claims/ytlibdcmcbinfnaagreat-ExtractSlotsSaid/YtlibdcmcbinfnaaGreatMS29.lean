/- Lemmas. -/
import Derived.Test.YtlibdcmcbinfnaaGreatMS28
set_option maxHeartbeats 100000000
set_option maxRecDepth 1000000
namespace Go.Proofs.YtlibdcmcbinfnaaGreat
open _root_.Go.Proofs.Tryz List Nat
open Go.RowKit
def GoN(S:St):Prop:=∀q∈S.go,q.1 / 256<S.G (q.1 % 256).toNat
variable{S:St}{x:Int}{X0 X:Sc}{n g:Nat}{zs:List Int}{F:Nat->Prop}{w w' w1 w2:World}
theorem GoN.dead(h:GoN S){since x:Int}(hx:x∈goL S since):zai S x=false:=by
 obtain⟨t,ht,_⟩:=zqy.1 hx;have h1:=h _ ht;rw[Bool.eq_false_iff];intro c;have h2:=(zaU.1 c).2.2.2;simp only at h1;omega
theorem GoN.same{S':St}(h:GoN S)(hg:S'.G=S.G)(ho:S'.go=S.go):GoN S':=λq hq=>by
 rw[hg];exact h q (ho ▸ hq)
theorem GoN.zero(r:Nat):GoN (St0 r):=λq hq=>(by cases hq)
theorem zh5(S:St)(id:Int)(P:PT):(zdA S id P).G=S.G/\(zdA S id P).go=S.go:=by unfold zdA;split <;> exact⟨rfl,rfl⟩
theorem GoN.sp(h:GoN S)(P:PT):GoN (spS S P):=by unfold spS;split <;> exact h
theorem GoN.to1(h:GoN S)(x:Int):GoN (to1 S x):=by unfold Proofs.YtlibdcmcbinfnaaGreat.to1;split <;> exact h
theorem GoN.to:∀ (l:List Int) {S:St},GoN S->GoN (toS S l)
 | [],_,h=>h
 | x::l,_,h=>GoN.to l (h.to1 x)
theorem GoN.de(hW:WS S)(h:GoN S)(id:Int):GoN (deS S id):=by
 unfold deS
 cases c:atS S id with
 | none=>exact h
 | some i=>
  have hl:zai S id=true:=by
   rw[zdV hW];unfold zcF;rw[c];rfl
  have h2:=zaU.1 hl;intro q hq;have hG:∀j,S.G j<=drG S.G S.L id j:=λj=>by
   unfold drG
   split
   ·unfold upd
    split
    ·rename_i e;rw[e];omega
    ·exact Int.le_refl _
   ·exact Int.le_refl _
  show q.1 / 256<drG S.G S.L id (q.1 % 256).toNat;rcases mem_append.1 hq with m | m
  ·exact Int.lt_of_lt_of_le (h q m) (hG _)
  ·have e:q=(id,S.now):=by simpa using m
   rw[e];unfold drG upd;rw[if_pos (show zbO S.G S.L id=true from hl)];show id / 256<if (id % 256).toNat=(id % 256).toNat then S.G (id % 256).toNat+1 else S.G (id % 256).toNat
   rw[if_pos rfl,h2.2.2.2];omega
theorem zrD{D:FD}{since:Int}(hD:DOk D)(hN:zed X0 D.L)(h0:WX X0)(h:ToldX (λx P=>inS X0.S x P) (zak X0.L) since X)(hg:GoN X.S):zhg X D since:=
 ⟨hD,λx hl hc=>by
  obtain⟨h1,h2,_⟩:=h.same h0 hl hc;rw[hN x,if_pos ((zcs h0.ws).1 h1),h2],λx hl hs=>by
  have h1:zai X0.S x=true:=by
   rw[hN x]at hs
   by_cases c:zai X0.S x=true
   ·exact c
   ·rw[if_neg c]at hs;cases hs
  rcases h.gone h0 ((zcs h0.ws).2 h1) with m | m
  ·have:=(zcs h.wx.ws).1 m;rw[hl]at this;cases this
  ·exact m,λx hx=>hg.dead hx⟩
theorem zh6{since:Int}(h0:WX X0)(h:ToldX (λx P=>inS X0.S x P) (zak X0.L) since X){x:Int}(hl:zai X.S x=true)(hc:x∉chL X.S since):zby X.S x=zby X0.S x:=(h.same h0 hl hc).2.2.symm
theorem zoH(h:ToldX (λ_ _=>False) (λ_=>none) 0 X)(hg:GoN X.S):zhg X FD0 0:=
 ⟨DOk.zero,λx hl hc=>by
  obtain⟨P,hP⟩:=(h.wx.ws.live x).1 hl;rcases h.told.chg x P hP with q | q
  ·exact q.elim
  ·exact absurd (zeI.2 ⟨hl,q⟩) hc,λx _ hs=>(by cases hs),λx hx=>hg.dead hx⟩
theorem zdk(h:zai S x=true):Rg x:=by
 have h2:=zaU.1 h;unfold Rg;omega
theorem zi3(h:WX X){x:Int}(hl:zai X.S x=true):Rg (zaS X x).id/\Rg (zaS X x).par:=by
 unfold zaS;rw[if_pos (by rw[<-zdV h.ws];exact hl)];refine⟨zdk hl,?_⟩;show Rg ((zak X.L x).getD (-1))
 cases c:zak X.L x with
 | none=>show Rg (-1);decide
 | some y=>exact zdk (h.kid _ (zbo c)).2
theorem zrE:okM zcx=true:=by decide
theorem zt6{P:PT}(h:zaz P=true):okM P.2.1=true:=by
 unfold zaz zeB zhv at h;simp only[Bool.and_eq_true]at h;exact h.2.1.1.1.1.1
theorem zfy(h:WX X){x:Int}(hl:zai X.S x=true):okM (zaS X x).pl=true:=by
 unfold zaS;rw[if_pos (by rw[<-zdV h.ws];exact hl)];show okM (if zcl (zby X.S x).1 0=true then (zby X.S x).2.1 else zcx)=true
 split
 ·obtain⟨P,i,hi,hP⟩:=(h.ws.live x).1 hl;rw[h.ws.get ⟨i,hi,hP⟩];exact zt6 (zds.1 (h.ws.fit i hi _ hP)).1
 ·exact zrE
abbrev SlR:=List (Int × Int)
def zau(S:SlR)(x:Int):Int:=match S.find? (λp=>p.1==x) with | some p=>p.2 | none=> -1
def zc0(S:SlR)(n:Int):Bool:=S.any (λp=>p.2==n)
def zku(S:SlR):Nat->Nat->Nat
 | 0,n=>n
 | k+1,n=>if zc0 S n then zku S k (n+1) else n
def zbw(S:SlR):Nat:=zku S (S.length+1) 0
def za1(S:SlR)(x:Int):SlR:=if 0<=zau S x then S else S++[(x,(zbw S:Int))]
def zf0(zs:List Int)(S:SlR):SlR:=S.filter (λp=>decide (p.1∈zs))
def zcN(zs:List Int)(S:SlR):SlR:=zs.foldl za1 (zf0 zs S)
theorem zfz(S:SlR):∀k n m,n<=m->m<zku S k n->zc0 S m=true
 | 0,n,m,h1,h2=>by unfold zku at h2;omega
 | k+1,n,m,h1,h2=>by
  unfold zku at h2
  split at h2
  ·rename_i h
   by_cases c:m=n
   ·rw[c];exact h
   ·exact zfz S k (n+1) m om h2
  ·omega
theorem zny(S:SlR):∀k n,zc0 S (zku S k n)=true->zku S k n=n+k
 | 0,n,_=>rfl
 | k+1,n,h=>by
  unfold zku at h ⊢
  split at h
  ·rename_i c
   rw[if_pos c,zny S k (n+1) h];omega
  ·rename_i c
   exact absurd h c
theorem zi4{S:SlR}{n:Int}:zc0 S n=true↔n∈S.map Prod.snd:=by
 unfold zc0;rw[any_eq_true,mem_map];exact⟨λ⟨p,h1,h2⟩=>⟨p,h1,by simpa using h2⟩,λ⟨p,h1,h2⟩=>⟨p,h1,by simpa using h2⟩⟩
theorem znz:∀ (n:Nat) (l:List Int),(∀m:Nat,m<n->(m:Int)∈l)->n<=l.length
 | 0,_,_=>zero_le _
 | n+1,l,h=>by
  have h1:=h n om
  have h2:=znz n (l.erase (n:Int)) (λm hm=>by
   rw[mem_erase_of_ne om]
   exact h m om)
  rw[length_erase_of_mem h1]at h2;have:=length_pos_of_mem h1;omega
theorem zdl(S:SlR):zc0 S (zbw S)=false/\zbw S<=S.length:=by
 have hb:zbw S<=S.length:=by
  have:=znz (zbw S) (S.map Prod.snd) (λm hm=>zi4.1 (zfz S _ 0 m (zero_le _) hm));rw[length_map]at this;exact this
 refine⟨?_,hb⟩
 cases h:zc0 S (zbw S) with
 | false=>rfl
 | true=>
  have:=zny S (S.length+1) 0 h;unfold zbw at hb;omega
theorem zrF(S:SlR){m:Nat}(h:m<zbw S):zc0 S m=true:=zfz S _ 0 m (zero_le _) h
theorem zh7(S:SlR){n:Nat}(h:∀m,m<n->zc0 S (m:Nat)=true):(zc0 S n=false->zbw S=n)/\n<=zbw S:=by
 obtain⟨h1,_⟩:=zdl S;have h2:n<=zbw S:=by
  rcases Nat.lt_or_ge (zbw S) n with c | c
  ·rw[h _ c]at h1;cases h1
  ·exact c
 refine⟨λh3=> ?_,h2⟩;rcases Nat.lt_or_ge n (zbw S) with c | c
 ·rw[zrF S c]at h3;cases h3
 ·omega
structure SI (S:SlR):Prop where
 names:(S.map Prod.fst).Nodup
 slots:(S.map Prod.snd).Nodup
 pos:∀p∈S,0<=p.2
theorem SI.nil:SI []:=⟨nodup_nil,nodup_nil,λ_ h=>by cases h⟩
theorem SI.filter{S:SlR}(h:SI S)(f:Int × Int->Bool):SI (S.filter f):=
 ⟨h.names.sublist (filter_sublist.map _),h.slots.sublist (filter_sublist.map _),λp hp=>h.pos p (mem_filter.1 hp).1⟩
theorem zi5{S:SlR}(h:SI S){x n:Int}(hm:(x,n)∈S):zau S x=n:=by
 unfold zau;have:S.find? (λp=>p.1==x)=some (x,n):=by
  have hn:=h.names;clear h
  induction S with
  | nil=>cases hm
  | cons a S ih=>
   rw[map_cons,nodup_cons]at hn;rcases mem_cons.1 hm with e | hm
   ·subst e;simp
   ·have:a.1≠x:=λe=>hn.1 (by rw[e];exact mem_map.2 ⟨_,hm,rfl⟩);rw[find?_cons_of_neg (by simpa using this)];exact ih hm hn.2
 rw[this]
theorem zcO{S:SlR}(h:x∉S.map Prod.fst):zau S x= -1:=by
 unfold zau;have:S.find? (λp=>p.1==x)=none:=by
  rw[find?_eq_none];exact λp hp e=>h (mem_map.2 ⟨p,hp,by simpa using e⟩)
 rw[this]
theorem zbd{S:SlR}(h:SI S){x:Int}:0<=zau S x↔x∈S.map Prod.fst:=by
 constructor
 ·intro h1;apply Classical.byContradiction;intro h2;rw[zcO h2]at h1;omega
 ·intro h1;obtain⟨p,hp,e⟩:=mem_map.1 h1;rw[<-e,zi5 h (show (p.1,p.2)∈S from hp)];exact h.pos p hp
theorem ze3{S:SlR}(h:SI S){x:Int}(hx:0<=zau S x):(x,zau S x)∈S:=by
 obtain⟨p,hp,e⟩:=mem_map.1 ((zbd h).1 hx);have:=zi5 h (show (p.1,p.2)∈S from hp);rw[<-e,this];exact hp
theorem zt7{S:SlR}(h:SI S){x y:Int}(hx:0<=zau S x)(he:zau S x=zau S y):x=y:=by
 have h1:=ze3 h hx;have h2:=ze3 h (he ▸ hx);have hs:=h.slots;rw[<-he]at h2;generalize zau S x=n at h1 h2;clear h hx he
 induction S with
 | nil=>cases h1
 | cons a S ih=>
  rw[map_cons,nodup_cons]at hs;rcases mem_cons.1 h1 with e1 | h1 <;> rcases mem_cons.1 h2 with e2 | h2
  ·rw[<-e1]at e2;exact (congrArg Prod.fst e2).symm
  ·exact absurd (mem_map.2 ⟨_,h2,by rw[<-e1]⟩) hs.1
  ·exact absurd (mem_map.2 ⟨_,h1,by rw[<-e2]⟩) hs.1
  ·exact ih hs.2 h1 h2
theorem ze4{S:SlR}(h:SI S)(x:Int):zau (zf0 zs S) x=if x∈zs then zau S x else -1:=by
 have hk:SI (zf0 zs S):=h.filter _
 split
 ·rename_i hx
  by_cases c:0<=zau S x
  ·exact zi5 hk (mem_filter.2 ⟨ze3 h c,by simpa using hx⟩)
  ·rw[zcO (λm=>c ((zbd h).2 m)),zcO (λm=>c ((zbd h).2 ?_))];obtain⟨p,hp,e⟩:=mem_map.1 m;exact mem_map.2 ⟨p,(mem_filter.1 hp).1,e⟩
 ·rename_i hx
  refine zcO (λm=>hx ?_);obtain⟨p,hp,e⟩:=mem_map.1 m;rw[<-e];exact of_decide_eq_true (mem_filter.1 hp).2
theorem znA(S T:SlR)(x:Int):zau (S++T) x=if x∈S.map Prod.fst then zau S x else zau T x:=by
 split
 ·rename_i h
  unfold zau;rw[find?_append]
  cases e:S.find? (λp=>p.1==x) with
  | some p=>rfl
  | none=>
   rw[find?_eq_none]at e;obtain⟨p,hp,q⟩:=mem_map.1 h;exact absurd (by simpa using q) (e p hp)
 ·rename_i h
  unfold zau;rw[find?_append];have:S.find? (λp=>p.1==x)=none:=by
   rw[find?_eq_none];exact λp hp e=>h (mem_map.2 ⟨p,hp,by simpa using e⟩)
  rw[this];rfl
theorem ze5{S:SlR}(h:SI S)(x:Int):SI (za1 S x)/\(∀y,0<=zau S y->zau (za1 S x) y=zau S y)/\0<=zau (za1 S x) x/\(∀y,y∈(za1 S x).map Prod.fst↔y∈S.map Prod.fst∨y=x):=by
 unfold za1
 by_cases c:0<=zau S x
 ·rw[if_pos c];exact⟨h,λ_ _=>rfl,c,λy=>⟨.inl,λk=>k.elim id (λe=>e ▸ (zbd h).1 c)⟩⟩
 ·rw[if_neg c];have hx:x∉S.map Prod.fst:=λm=>c ((zbd h).2 m);have hl:(zbw S:Int)∉S.map Prod.snd:=λm=>by
   have:=(zdl S).1;rw[zi4.2 m]at this
   cases this
  have hs:SI (S++[(x,(zbw S:Int))]):=by
   refine⟨?_,?_,λp hp=> ?_⟩
   ·rw[map_append,nodup_append];exact⟨h.names,by simp,λa ha b hb e=>hx (by simp at hb;rw[<-hb,<-e];exact ha)⟩
   ·rw[map_append,nodup_append];exact⟨h.slots,by simp,λa ha b hb e=>hl (by simp at hb;rw[<-hb,<-e];exact ha)⟩
   ·rcases mem_append.1 hp with hp | hp
    ·exact h.pos p hp
    ·have:p=(x,(zbw S:Int)):=by simpa using hp
     rw[this];exact Int.natCast_nonneg _
  refine⟨hs,λy hy=> ?_,?_,λy=> ?_⟩
  ·rw[znA,if_pos ((zbd h).1 hy)]
  ·exact (zbd hs).2 (by simp)
  ·simp
theorem zt8(S:SlR)(x:Int):(za1 S x).length<=S.length+1:=by
 unfold za1
 split <;> simp
theorem znB:∀ (zs:List Int) {S:SlR},SI S->SI (zs.foldl za1 S)/\(∀y,0<=zau S y->zau (zs.foldl za1 S) y=zau S y)/\(∀y,y∈(zs.foldl za1 S).map Prod.fst↔y∈S.map Prod.fst∨y∈zs)
 | [],S,h=>⟨h,λ_ _=>rfl,λy=>by simp⟩
 | x::zs,S,h=>by
  obtain⟨h1,h2,_,h4⟩:=ze5 h x;obtain⟨k1,k2,k3⟩:=znB zs h1;refine⟨k1,λy hy=> ?_,λy=> ?_⟩
  ·rw[foldl_cons,k2 y (by rw[h2 y hy];exact hy),h2 y hy]
  ·rw[foldl_cons,k3,h4,mem_cons,or_assoc]
theorem zh8:∀ (zs:List Int) {S:SlR} {n:Nat},SI S->(∀p∈S,p.2<n)->(∀us:List Int,us.Nodup->(∀u∈us,u∈S.map Prod.fst∨u∈zs)->us.length<=n)->∀p∈zs.foldl za1 S,p.2<n
 | [],_,_,_,hb,_=>hb
 | x::zs,S,n,h,hb,hn=>by
  obtain⟨h1,_,_,h4⟩:=ze5 h x;refine zh8 zs h1 (λp hp=> ?_) (λus hu hm=>hn us hu (λu k=> ?_))
  ·unfold za1 at hp
   split at hp
   ·exact hb p hp
   ·rename_i c
    rcases mem_append.1 hp with hp | hp
    ·exact hb p hp
    ·have e:p=(x,(zbw S:Int)):=by simpa using hp
     have hx:x∉S.map Prod.fst:=λm=>c ((zbd h).2 m)
     have:=hn (x::S.map Prod.fst) (nodup_cons.2 ⟨hx,h.names⟩) (λu k=>by
      rcases mem_cons.1 k with e | k
      ·exact .inr (e ▸ mem_cons_self)
      ·exact .inl k)
     rw[length_cons,length_map]at this;have h2:=(zdl S).2;rw[e];show (zbw S:Int)<n;omega
  ·rcases hm u k with m | m
   ·rcases (h4 u).1 m with m | m
    ·exact .inl m
    ·exact .inr (m ▸ mem_cons_self)
   ·exact .inr (mem_cons_of_mem _ m)
theorem znC{S:SlR}(h:SI S):SI (zcN zs S)/\(∀y,0<=zau (zcN zs S) y↔y∈zs)/\∀y,y∈zs->0<=zau S y->zau (zcN zs S) y=zau S y:=by
 have hk:SI (zf0 zs S):=h.filter _;obtain⟨k1,k2,k3⟩:=znB zs hk;refine⟨k1,λy=> ?_,λy hy h0=> ?_⟩
 ·refine (zbd k1).trans ?_;refine (k3 y).trans ⟨λq=>q.elim (λm=> ?_) id,.inr⟩;have:=(zbd hk).2 m;rw[ze4 h]at this
  split at this
  ·assumption
  ·omega
 ·have e:zau (zf0 zs S) y=zau S y:=by rw[ze4 h,if_pos hy]
  exact (k2 y (by rw[e];exact h0)).trans e
theorem zl1{S:SlR}(h:SI S)(hb:∀p∈S,p.2<n)(hz:∀us:List Int,us.Nodup->(∀u∈us,u∈zs)->us.length<=n):∀p∈zcN zs S,p.2<n:=
 zh8 zs (h.filter _) (λp hp=>hb p (mem_filter.1 hp).1) (λus hu hm=>hz us hu (λu k=>(hm u k).elim (λm=>by
  obtain⟨p,hp,e⟩:=mem_map.1 m;rw[<-e]
  exact of_decide_eq_true (mem_filter.1 hp).2) id))
section
variable {sp:Value} {w w':World} {g:Nat} {v:Value} {L:FT} {F:Nat->Prop}
structure RG (sp:Value) (w:World) (g:Nat) (v:Value) (L:FT):Prop where
 blk:Blk w g 79 #[sp,v]
 col:ColP w v L
 off:v.ownBlock≠some g
def RGB(sp:Value)(w:World)(g:Nat)(F:Nat->Prop)(L:FT):Prop:=∃v,RG sp w g v L/\∀b,F b↔zyA g v b
end
structure Duo (SB:World->Nat->(Nat->Prop)->St->Prop) (w0 w:World) (gp gr:Nat) (Fp Fq:Nat->Prop) (S1 S2:St):Prop where
 sp:SB w gp Fp S1
 rb:RB w gr Fq S2
 dis:∀b,Fp b->¬Fq b
 bel:Bw w0 w
 fp:∀b,Fp b->w0.heap.size<=b
 fq:∀b,Fq b->w0.heap.size<=b
section
variable {SB:World->Nat->(Nat->Prop)->St->Prop} {w0 w w':World} {gp gr:Nat} {Fp Fq:Nat->Prop} {S1 S2 S':St}
theorem zAc{w0:World}{a:Option Addr}(h:Row w0 a n zs)(hF:∀b,F b->w0.heap.size<=b):Aw F a n:=by
 rcases h.2.2 with c | ⟨b,off,e,hc⟩
 ·exact .inl c
 ·by_cases c:n=0
  ·exact .inl c
  ·refine .inr (λad e2 hf=> ?_);rw[e]at e2;injection e2 with e2;have h1:=World.block_lt_of_cell? w0 _ (hc 0 om);have h2:=hF _ hf;rw[<-e2]at h2;have h3:b<w0.heap.size:=h1;have h4:w0.heap.size<=b:=h2;omega
theorem zl2{W:World}(hF:∀b,F b->b<W.heap.size):Aw F (some ⟨W.heap.size,0,none⟩) n:=Or.inr (λad e hf=>by
 injection e with e;rw[<-e]at hf;have h2:W.heap.size<W.heap.size:=hF _ hf
 omega)
end
structure KB {α:Type} (B:World->Nat->(Nat->Prop)->α->Prop):Prop where
 keep_:∀w w' g F x,B w g F x->(∀b,F b->w'.heap[b]? =w.heap[b]?)->B w' g F x
 inb:∀w g F x,B w g F x->∀b,F b->b<w.heap.size
def ChB{α:Type}(B:World->Nat->(Nat->Prop)->α->Prop)(w w':World)(g:Nat)(F:Nat->Prop)(x:α):Prop:=∃F',B w' g F' x/\Fr w w' F/\∀b,F' b->F b∨w.heap.size<=b
theorem KB.keep{α:Type}{B:World->Nat->(Nat->Prop)->α->Prop}(k:KB B){w w':World}{g:Nat}{F:Nat->Prop}{x:α}(h:B w g F x)(hb:Bw w w'):B w' g F x:=k.keep_ w w' g F x h (λb hf=>hb.block b (k.inb w g F x h b hf))
theorem ChB.still{α:Type}{B:World->Nat->(Nat->Prop)->α->Prop}(k:KB B){w w':World}{g:Nat}{F:Nat->Prop}{x:α}(h:B w g F x)(hb:Bw w w'):ChB B w w' g F x:=⟨F,k.keep h hb,⟨hb.os,hb.tape,hb.output,hb.size,λb hl _=>hb.block b hl⟩,λ_ c=>Or.inl c⟩
structure PR (SB:World->Nat->(Nat->Prop)->St->Prop) (FB:World->Nat->(Nat->Prop)->FT->Prop) (w:World) (gs gf:Nat) (Fs Ff H:Nat->Prop) (X:Sc):Prop where
 st:SB w gs Fs X.S
 fo:FB w gf Ff X.L
 apart:∀b,Fs b->¬Ff b
 hs:∀b,H b->¬Fs b/\¬Ff b
 hin:∀b,H b->b<w.heap.size
def PSt(SB:World->Nat->(Nat->Prop)->St->Prop)(FB:World->Nat->(Nat->Prop)->FT->Prop)(w0 w:World)(gs gf:Nat)(H F:Nat->Prop)(X:Sc):Prop:=∃Fs Ff,PR SB FB w gs gf Fs Ff H X/\Fr w0 w F/\(∀b,Fs b∨Ff b->F b∨w0.heap.size<=b)/\∀b,H b->F b/\w.heap[b]? =w0.heap[b]?
theorem zi6{F1:Nat->Prop}(h1:Fr w w1 F)(h2:Fr w1 w2 F1)(hn:∀b,F1 b->F b∨w.heap.size<=b):Fr w w2 F:=
 ⟨h2.1.trans h1.1,h2.2.1.trans h1.2.1,h2.2.2.1.trans h1.2.2.1,Nat.le_trans h1.2.2.2.1 h2.2.2.2.1,λb hb KL=>(h2.2.2.2.2 b (Nat.lt_of_lt_of_le hb h1.2.2.2.1) (λc=>by
  rcases hn b c with d | d
  ·exact KL d
  ·omega)).trans (h1.2.2.2.2 b hb KL)⟩
theorem zhh(h1:Fr w w1 F)(hb:Bw w1 w2):Fr w w2 F:=zi6 h1 (F1:=λ_=>False) ⟨hb.os,hb.tape,hb.output,hb.size,λb hl _=>hb.block b hl⟩ (λ_ c=>c.elim)
theorem zt9(w:World)(F:Nat->Prop):Fr w w F:=⟨rfl,rfl,rfl,Nat.le_refl _,λ_ _ _=>rfl⟩
section
variable {SB:World->Nat->(Nat->Prop)->St->Prop} {FB:World->Nat->(Nat->Prop)->FT->Prop} {w0 w w':World} {gs gf:Nat} {Fs Ff H F:Nat->Prop} {X:Sc}
theorem PR.keep(kS:KB SB)(kF:KB FB)(h:PR SB FB w gs gf Fs Ff H X)(hb:Bw w w'):PR SB FB w' gs gf Fs Ff H X:=⟨kS.keep h.st hb,kF.keep h.fo hb,h.apart,h.hs,λb c=>Nat.lt_of_lt_of_le (h.hin b c) hb.size⟩
theorem PSt.init(h:PR SB FB w gs gf Fs Ff H X)(hF:∀b,F b↔H b∨Fs b∨Ff b):PSt SB FB w w gs gf H F X:=⟨Fs,Ff,h,zt9 _ _,λb c=>Or.inl ((hF b).2 (.inr c)),λb c=>⟨(hF b).2 (.inl c),rfl⟩⟩
theorem PSt.keep(kS:KB SB)(kF:KB FB)(h:PSt SB FB w0 w gs gf H F X)(hb:Bw w w'):PSt SB FB w0 w' gs gf H F X:=by
 obtain⟨Fs,Ff,h1,h2,h3,h4⟩:=h;exact⟨Fs,Ff,h1.keep kS kF hb,zhh h2 hb,h3,λb c=>⟨(h4 b c).1,(hb.block b (h1.hin b c)).trans (h4 b c).2⟩⟩
theorem PSt.withS(kS:KB SB)(kF:KB FB)(h:PSt SB FB w0 w gs gf H F X):∃Fs,(∀b,Fs b->b<w.heap.size)/\(∀b,Fs b->F b∨w0.heap.size<=b)/\∀w1,Bw w w1->SB w1 gs Fs X.S/\∀w' S',ChB SB w1 w' gs Fs S'->PSt SB FB w0 w' gs gf H F ⟨S',X.L⟩:=by
 obtain⟨Fs,Ff,h1,h2,h3,h4⟩:=h;refine⟨Fs,kS.inb _ _ _ _ h1.st,λb c=>h3 b (.inl c),λw1 hb=>⟨kS.keep h1.st hb,λw' S' ⟨F',c1,c2,c3⟩=> ?_⟩⟩;have Mk:=h1.keep kS kF hb;have Kk:=kF.inb _ _ _ _ Mk.fo;refine⟨F',Ff,⟨c1,kF.keep_ w1 w' gf Ff X.L Mk.fo (λb hf=>c2.2.2.2.2 b (Kk b hf) (λq=>h1.apart b q hf)),λb kj hf=> ?_,λb hH=>⟨λkj=> ?_,(h1.hs b hH).2⟩,λb hH=>Nat.lt_of_lt_of_le (Mk.hin b hH) c2.2.2.2.1⟩,zi6 (zhh h2 hb) c2 (λb q=>h3 b (.inl q)),λb q=> ?_,λb hH=>⟨(h4 b hH).1,?_⟩⟩
 ·rcases c3 b kj with d | d
  ·exact h1.apart b d hf
  ·have:=Kk b hf;omega
 ·rcases c3 b kj with d | d
  ·exact (h1.hs b hH).1 d
  ·have:=Mk.hin b hH;omega
 ·rcases q with q | q
  ·rcases c3 b q with d | d
   ·exact h3 b (.inl d)
   ·exact .inr (Nat.le_trans (Nat.le_trans h2.2.2.2.1 hb.size) d)
  ·exact h3 b (.inr q)
 ·exact (c2.2.2.2.2 b (Mk.hin b hH) (h1.hs b hH).1).trans ((hb.block b (h1.hin b hH)).trans (h4 b hH).2)
theorem PSt.withF(kS:KB SB)(kF:KB FB)(h:PSt SB FB w0 w gs gf H F X):∃Ff,(∀b,Ff b->b<w.heap.size)/\(∀b,Ff b->F b∨w0.heap.size<=b)/\∀w1,Bw w w1->FB w1 gf Ff X.L/\∀w' L',ChB FB w1 w' gf Ff L'->PSt SB FB w0 w' gs gf H F ⟨X.S,L'⟩/\∀ (a:Option Addr) (n:Nat),(n=0∨∀ad,a=some ad->Ff ad.block∨w1.heap.size<=ad.block)->∃Fs,SB w' gs Fs X.S/\Aw Fs a n/\∀dN S',ChB SB w' dN gs Fs S'->PSt SB FB w0 dN gs gf H F ⟨S',L'⟩:=by
 obtain⟨Fs,Ff,h1,h2,h3,h4⟩:=h;refine⟨Ff,kF.inb _ _ _ _ h1.fo,λb c=>h3 b (.inr c),λw1 hb=>⟨kF.keep h1.fo hb,λw' L' ⟨F',c1,c2,c3⟩=> ?_⟩⟩;have Mk:=h1.keep kS kF hb;have Mx:=kS.inb _ _ _ _ Mk.st;have Ez:SB w' gs Fs X.S:=kS.keep_ w1 w' gs Fs X.S Mk.st (λb hf=>c2.2.2.2.2 b (Mx b hf) (λq=>h1.apart b hf q));have hP:PR SB FB w' gs gf Fs F' H ⟨X.S,L'⟩:=by
  refine⟨Ez,c1,λb hf kj=> ?_,λb hH=>⟨(h1.hs b hH).1,λkj=> ?_⟩,λb hH=>Nat.lt_of_lt_of_le (Mk.hin b hH) c2.2.2.2.1⟩
  ·rcases c3 b kj with d | d
   ·exact h1.apart b hf d
   ·have:=Mx b hf;omega
  ·rcases c3 b kj with d | d
   ·exact (h1.hs b hH).2 d
   ·have:=Mk.hin b hH;omega
 have kE:Fr w0 w' F:=zi6 (zhh h2 hb) c2 (λb q=>h3 b (.inr q));have hn:∀b,Fs b∨F' b->F b∨w0.heap.size<=b:=λb q=>by
  rcases q with q | q
  ·exact h3 b (.inl q)
  ·rcases c3 b q with d | d
   ·exact h3 b (.inr d)
   ·exact .inr (Nat.le_trans (Nat.le_trans h2.2.2.2.1 hb.size) d)
 have eR:∀b,H b->F b/\w'.heap[b]? =w0.heap[b]? :=λb hH=>⟨(h4 b hH).1,(c2.2.2.2.2 b (Mk.hin b hH) (h1.hs b hH).2).trans ((hb.block b (h1.hin b hH)).trans (h4 b hH).2)⟩;have EW:PSt SB FB w0 w' gs gf H F ⟨X.S,L'⟩:=⟨Fs,F',hP,kE,hn,eR⟩;refine⟨EW,λa n ha=>⟨Fs,Ez,?_,λdN S' ch=> ?_⟩⟩
 ·refine ha.imp id (λq ad e hf=> ?_);rcases q ad e with d | d
  ·exact h1.apart _ hf d
  ·have:=Mx _ hf;omega
 ·obtain⟨G',gA,jz,Ek⟩:=ch;have Kk:=kF.inb _ _ _ _ c1;refine⟨G',F',⟨gA,kF.keep_ w' dN gf F' L' c1 (λb hf=>jz.2.2.2.2 b (Kk b hf) (λq=>hP.apart b q hf)),λb kj hf=> ?_,λb hH=>⟨λkj=> ?_,(hP.hs b hH).2⟩,λb hH=>Nat.lt_of_lt_of_le (hP.hin b hH) jz.2.2.2.1⟩,zi6 kE jz (λb q=>hn b (.inl q)),λb q=> ?_,λb hH=>⟨(eR b hH).1,(jz.2.2.2.2 b (hP.hin b hH) (hP.hs b hH).1).trans (eR b hH).2⟩⟩
  ·rcases Ek b kj with d | d
   ·exact hP.apart b d hf
   ·have:=Kk b hf;omega
  ·rcases Ek b kj with d | d
   ·exact (hP.hs b hH).1 d
   ·have:=hP.hin b hH;omega
  ·rcases q with q | q
   ·rcases Ek b q with d | d
    ·exact hn b (.inl d)
    ·exact .inr (Nat.le_trans kE.2.2.2.1 d)
   ·exact hn b (.inr q)
end
def RSB(w:World)(g:Nat)(F:Nat->Prop)(X:Sc):Prop:=∃gs Fs Ff,PR RB (RGB (.pointer (some ⟨gs,0,none⟩))) w gs g Fs Ff (λ_=>False) X/\∀b,F b↔Fs b∨Ff b
abbrev RPS (w0 w:World) (gs g:Nat) (F:Nat->Prop) (X:Sc):Prop:=PSt RB (RGB (.pointer (some ⟨gs,0,none⟩))) w0 w gs g (λ_=>False) F X
end Go.Proofs.YtlibdcmcbinfnaaGreat
