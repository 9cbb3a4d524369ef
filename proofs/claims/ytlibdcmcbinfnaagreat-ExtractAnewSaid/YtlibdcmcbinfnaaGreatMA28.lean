/- Lemmas. -/
import Derived.Test.YtlibdcmcbinfnaaGreatMA27
import Derived.ShutString
import Derived.ChangeOld
set_option maxHeartbeats 100000000
set_option maxRecDepth 1000000
set_option linter.unusedVariables false
namespace Go.Proofs.YtlibdcmcbinfnaaGreat
open _root_.Go.Proofs.Tryz List Nat
open Go.RowKit
open Go.ChangeShapes Go.WideShapes Go.ChangeAt Go.RowKit Go.Deep
instance:Inhabited Rc:=⟨zRc⟩
theorem zt9{A:List Rc}(h:zdy A)(zs:List Int):zdy (zhy A zs):=List.Pairwise.sublist filter_sublist h
theorem zua(A:List Rc)(zs:List Int)(k:Int):look k (zhy A zs)=if k∈zs then none else look k A:=by
 unfold look zhy;rw[find?_filter]
 by_cases h:k∈zs
 ·rw[if_pos h,find?_eq_none];intro x hx
  by_cases e:x.id=k
  ·rw[e];simp[h]
  ·simp[e]
 ·rw[if_neg h];refine congrArg (λf=>find? f A) (funext λr=> ?_)
  by_cases e:r.id=k
  ·rw[e];simp[h]
  ·simp[e]
def Wk(o:Int->Option Rc)(R0:List Rc)(zs:List Int)(R:List Rc):Prop:=zdy R/\∀k,look k R=if k∈zs then o k else look k R0
variable{o:Int->Option Rc}{R0 R:List Rc}{zs us:List Int}{e:Int->Int}{L L':List Nd}{X:Sc}{x:Int}
theorem Wk.nil(h:zdy R0):Wk o R0 [] R0:=⟨h,λk=>by simp⟩
theorem Wk.one{R':List Rc}(h:Wk o R0 zs R)(h':Wk o R0 zs R'):R=R':=
 zi2 h.1 h'.1 (λk=>(h.2 k).trans (h'.2 k).symm)
theorem Wk.whole(h:Wk o R0 zs R)(h0:∀k,k∉zs->look k R0=o k)(k:Int):look k R=o k:=by
 rw[h.2 k]
 by_cases c:k∈zs
 ·rw[if_pos c]
 ·rw[if_neg c,h0 k c]
theorem zfA(h:zdy R):(R.map Rc.id).Pairwise (·<·):=List.pairwise_map.2 h
theorem zi6(h:zdy R):(R.map Rc.id).Nodup:=(zfA h).imp (fun {a b} k e=>om)
theorem zea{k:Int}:(look k R).isSome=true↔k∈R.map Rc.id:=by
 rw[mem_map];constructor
 ·intro h;obtain⟨r,hr⟩:=Option.isSome_iff_exists.1 h;exact⟨r,ze2 hr⟩
 ·rintro⟨r,h1,h2⟩;obtain⟨y,hy⟩:=zhg h1 h2;rw[hy];rfl
def zbh(e:Int->Int)(zs:List Int):Int:=match zs.find? (λx=>decide (e x≠0)) with | some x=>e x | none=>0
theorem zdj(e:Int->Int)(x:Int)(zs:List Int):zbh e (x::zs)=if e x=0 then zbh e zs else e x:=by
 unfold zbh
 by_cases c:e x=0
 ·rw[if_pos c,find?_cons_of_neg (by simpa using c)]
 ·rw[if_neg c,find?_cons_of_pos (by simpa using c)]
theorem zh8:zbh e zs=0↔∀x∈zs,e x=0:=by
 induction zs with
 | nil=>exact⟨λ_ x h=>(by cases h),λ_=>rfl⟩
 | cons a zs ih=>
  rw[zdj];constructor
  ·intro h
   split at h
   ·rename_i c
    intro x hx;rcases mem_cons.1 hx with rfl | hx
    ·exact c
    ·exact ih.1 h x hx
   ·rename_i c
    exact absurd h c
  ·intro h;rw[if_pos (h a mem_cons_self)];exact ih.2 (λx hx=>h x (mem_cons_of_mem _ hx))
theorem zd1(e:Int->Int)(f:Int->Bool):∀ {zs:List Int},(∀x∈zs,f x=false->e x=0)->zbh e (zs.filter f)=zbh e zs
 | [],_=>rfl
 | a::zs,h=>by
  have ih:=zd1 e f (λx hx=>h x (mem_cons_of_mem _ hx));rw[zdj]
  cases c:f a with
  | true=>rw[filter_cons_of_pos c,zdj,ih]
  | false=>rw[filter_cons_of_neg (by rw[c];decide),ih,if_pos (h a mem_cons_self c)]
theorem zvD(ha:us.Pairwise (·<·))(hz:zs.Pairwise (·<·))(h:∀x∈zs,x∈us):zs=us.filter (λx=>decide (x∈zs)):=by
 induction us generalizing zs with
 | nil=>
  cases zs with
  | nil=>rfl
  | cons z zs=>cases h z mem_cons_self
 | cons a us ih=>
  obtain⟨a1,a2⟩:=pairwise_cons.1 ha
  cases zs with
  | nil=>rw[filter_eq_nil_iff.2 (λx _=>by simp)]
  | cons z zs=>
   obtain⟨z1,z2⟩:=pairwise_cons.1 hz
   by_cases c:z=a
   ·subst c;rw[filter_cons_of_pos (by simp)];congr 1;have h2:∀x∈zs,x∈us:=λx hx=>by
     rcases mem_cons.1 (h x (mem_cons_of_mem _ hx)) with e | m
     ·have:=z1 x hx;omega
     ·exact m
    refine (ih a2 z2 h2).trans (filter_congr (λx hx=> ?_));have:=a1 x hx;have Hd:x≠z:=om;simp[Hd]
   ·have mV:z∈us:=(mem_cons.1 (h z mem_cons_self)).resolve_left c;have:=a1 z mV;have hna:a∉z::zs:=λm=>by
     rcases mem_cons.1 m with e | m
     ·omega
     ·have:=z1 a m;omega
    rw[filter_cons_of_neg (by simpa using hna)];refine ih a2 hz (λx hx=>(mem_cons.1 (h x hx)).resolve_left (λe=> ?_));rw[e]at hx;exact hna hx
theorem zrE(ha:us.Pairwise (·<·))(hz:zs.Pairwise (·<·))(h:∀x∈zs,x∈us)(h0:∀x∈us,x∉zs->e x=0):zbh e zs=zbh e us:=by
 rw[zvD ha hz h];exact zd1 e _ (λx hx c=>h0 x hx (by simpa using c))
theorem zrF{l:List Nd}(hL:(L.map Nd.id).Nodup)(hl:∀a∈l,∀b∈l,a.id=b.id->a=b)(y:Int):elF Nd.id (withS L l) y=(elF Nd.id l y).or (elF Nd.id L y):=by
 cases c:elF Nd.id l y with
 | none=>
  rw[Option.none_or];refine zeX hL (λm hm=>zcL (λq=> ?_));obtain⟨n,hn,e⟩:=mem_map.1 q;exact zcZ.1 c n hn om
 | some n=>
  rw[Option.some_or];have h1:=zb1 c;have hin:n∈withS L l:=by
   clear c
   induction l generalizing L with
   | nil=>cases h1.2
   | cons a l ih=>
    show n∈withS (zg0 L a) l
    by_cases m:n∈l
    ·exact ih (zeY hL a) (λa ha b hb=>hl a (mem_cons_of_mem _ ha) b (mem_cons_of_mem _ hb)) ⟨h1.1,m⟩
    ·have e:n=a:=(mem_cons.1 h1.2).resolve_right m;refine (zcL (λq=>m ?_)).2 (zb4.2 (.inr e));obtain⟨b,hb,q⟩:=mem_map.1 q;rw[<-hl b (mem_cons_of_mem _ hb) n h1.2 q];exact hb
  have:=zdg (zcK l hL) hin;rw[h1.1]at this;exact this
theorem zub(h:WX X){zs:List Int}(hz:∀x∈zs,zai X.S x=true)(y:Int):elF Nd.id (zs.map (zaS X)) y=if y∈zs then some (zaS X y) else none:=by
 induction zs with
 | nil=>simp[elF]
 | cons a zs ih=>
  have ha:=zdZ h (hz a mem_cons_self);have NL:=ih (λx hx=>hz x (mem_cons_of_mem _ hx));unfold elF at NL ⊢;rw[map_cons,find?_cons]
  by_cases e:a=y
  ·subst e;rw[ha,if_pos mem_cons_self];simp
  ·rw[show ((zaS X a).id==y)=false by rw[ha];simpa using e];rw[NL]
   by_cases c:y∈zs
   ·rw[if_pos c,if_pos (mem_cons_of_mem _ c)]
   ·rw[if_neg c,if_neg (λm=>(mem_cons.1 m).elim (λq=>e q.symm) c)]
structure zhk (X:Sc) (D:FD) (since:Int):Prop where
 dok:DOk D
 old:∀x,zai X.S x=true->x∉chL X.S since->elF Nd.id D.L x=some (zaS X x)
 gone:∀x,zai X.S x=false->(elF Nd.id D.L x).isSome=true->x∈goL X.S since
 went:∀x∈goL X.S since,zai X.S x=false
def zrG(X:Sc)(D:FD)(since:Int):List Nd:=withS (zbs D (goL X.S since)).L ((chL X.S since).map (zaS X))
section
variable {X:Sc} {D:FD} {since:Int}
theorem znC(h:zhk X D since):((zrG X D since).map Nd.id).Nodup:=zcK _ (h.dok.drops _).nod
theorem zdk(hX:WX X)(h:zhk X D since):zcT X (zrG X D since):=λx=>by
 have hc:∀x∈chL X.S since,zai X.S x=true:=λx hx=>(zee.1 hx).1;unfold zrG
 rw[zrF (h.dok.drops _).nod (λa ha b hb e=>by
  obtain⟨p,hp,rfl⟩:=mem_map.1 ha;obtain⟨q,hq,rfl⟩:=mem_map.1 hb;rw[zdZ hX (hc p hp),zdZ hX (hc q hq)]at e
  rw[e]),zub hX hc,ztT _ h.dok]
 by_cases c:x∈chL X.S since
 ·rw[if_pos c,if_pos (hc x c),Option.some_or]
 ·rw[if_neg c,Option.none_or]
  cases l:zai X.S x with
  | true=>rw[if_neg (λm=>by rw[h.went x m]at l;cases l),if_pos rfl,h.old x l c]
  | false=>
   by_cases g:x∈goL X.S since
   ·rw[if_pos g];rfl
   ·rw[if_neg g]
    cases e:elF Nd.id D.L x with
    | none=>rfl
    | some n=>exact absurd (h.gone x l (by rw[e];rfl)) g
theorem zi7(hX:WX X){L:List Nd}(hn:(L.map Nd.id).Nodup)(hN:zcT X L):WF (zaj L):=by
 refine⟨zdT hn,λx=> ?_⟩;have key:∀ (l:List Int) (x:Int),IsA X.L x l->IsA (zaj L) x l:=by
  intro l
  induction l with
  | nil=>
   intro x hx;show zak (zaj L) x=none;rw[zkm hX hn hN];exact hx
  | cons y l ih=>
   intro x hx;exact⟨by rw[zkm hX hn hN];exact hx.1,ih y hx.2⟩
 exact⟨_,key _ x (hX.wf.isA x)⟩
theorem zi8(hX:WX X)(h:zhk X D since)(Hp:∀x,zai X.S x=true->okM (zaS X x).pl=true):zct (zbs D (goL X.S since)) ((chL X.S since).map (zaS X))=0:=by
 unfold zct;rw[if_neg,if_neg]
 ·intro q;obtain⟨n,_,e⟩:=any_eq_true.1 q;have:=zkk (znC h) (zi7 hX (znC h) (zdk hX h)) n.id;have e':zhE (zrG X D since) n.id=true:=e;rw[this]at e'
  cases e'
 ·intro q;obtain⟨n,hn,e⟩:=any_eq_true.1 q;obtain⟨x,hx,rfl⟩:=mem_map.1 hn;have hl:=(zee.1 hx).1;unfold zhF at e;rw[Hp x hl,zdZ hX hl]at e;have:0<=x:=(zaR.1 hl).1;simp at e;omega
end
def oX(X:Sc)(L:List Nd)(x:Int):Option Rc:=match (zb2 L x).1 with
 | some s=>if obR s.wo (zby X.S x) s.sh=true then some (zrB x (zby X.S x) s.wo) else none
 | none=>none
def eX(X:Sc)(L:List Nd)(x:Int):Int:=match (zb2 L x).1 with
 | some s=>oeR s.wo (zby X.S x) s.sh
 | none=>0
theorem zkA{r:Rc}(h:oX X L x=some r):r.id=x:=by
 unfold oX at h
 cases c:(zb2 L x).1 with
 | none=>rw[c]at h;cases h
 | some s=>
  simp only[c]at h
  by_cases d:obR s.wo (zby X.S x) s.sh=true
  ·rw[if_pos d]at h;injection h with h;rw[<-h];rfl
  ·rw[if_neg d]at h;cases h
theorem zyZ(h:∀x,zb2 L' x=zb2 L x)(x:Int):oX X L' x=oX X L x/\eX X L' x=eX X L x:=by
 unfold oX eX;rw[h x];exact⟨rfl,rfl⟩
theorem zrH(hX:WX X){L L':List Nd}(hn:(L.map Nd.id).Nodup)(kB:(L'.map Nd.id).Nodup)(hN:zcT X L)(S8:zcT X L'):(ziM L').e=(ziM L).e/\∀x,oX X L' x=oX X L x/\eX X L' x=eX X L x:=by
 have he:∀y,elF Nd.id L' y=elF Nd.id L y:=λy=>(S8 y).trans (hN y).symm;have hpos:∀ {M:List Nd},(M.map Nd.id).Nodup->zcT X M->∀n∈M,0<=n.id:=λhm hM n hk=>by
  have h1:=hM n.id;rw[zdg hm hk]at h1
  by_cases c:zai X.S n.id=true
  ·exact (zaR.1 c).1
  ·rw[if_neg c]at h1;cases h1
 have hW:=zi7 hX hn hN;have kY:=zi7 hX kB S8;exact⟨zw7 hn kB hW kY (hpos hn hN) (hpos kB S8) he,zyZ (znw hn kB hW kY he)⟩
def zaC(X:Sc)(D:FD)(since:Int):FD:=zcu (zbs D (goL X.S since)) ((chL X.S since).map (zaS X))
section
variable {X:Sc} {D:FD} {since:Int}
theorem zi9(hX:WX X)(h:zhk X D since)(Hp:∀x,zai X.S x=true->okM (zaS X x).pl=true):(zaC X D since).L=zrG X D since/\(zaC X D since).begun=D.begun/\(zaC X D since).sts=D.sts/\∀x∈chL X.S since,x∈(zaC X D since).dirty:=by
 have e:=zi8 hX h Hp;obtain⟨r1,r2⟩:=zh7 (goL X.S since) D;unfold zaC zcu;rw[if_pos e];refine⟨rfl,r1,r2,λx hx=>mem_append_right _ ?_⟩;rw[map_map];exact mem_map.2 ⟨x,hx,zdZ hX (zee.1 hx).1⟩
theorem zl6(h:zhk X D since)(de:∀x,zai X.S x=true->Rg (zaS X x).id/\Rg (zaS X x).par):DOk (zaC X D since):=
 (h.dok.drops _).put (λn hn=>by
  obtain⟨x,hx,rfl⟩:=mem_map.1 hn
  exact de x (zee.1 hx).1)
structure zxo (X0:Sc) (D:FD) (R:List Rc):Prop where
 dok:DOk D
 ran:D.begun=true
 clean:zah D=[]
 rise:zdy R
 recs:∀k,look k R=oX X0 D.L k
 errs:∀k,eX X0 D.L k=0
theorem zdl(h:elF Nd.id L x=none):oX X L x=none/\eX X L x=0:=by
 unfold oX eX;rw[zev h];exact⟨rfl,rfl⟩
theorem znD{X0:Sc}(hX:WX X)(h:zhk X D since)(Hp:∀x,zai X.S x=true->okM (zaS X x).pl=true)(de:∀x,zai X.S x=true->Rg (zaS X x).id/\Rg (zaS X x).par)
  (hG:zxo X0 D R)(hP:∀x,zai X.S x=true->x∉chL X.S since->zby X.S x=zby X0.S x){x:Int}(hx:zai X.S x=true)(ht:x∉zah (zaC X D since)):
  oX X (zaC X D since).L x=oX X0 D.L x/\eX X (zaC X D since).L x=eX X0 D.L x:=by
 obtain⟨t1,t2,t3,t4⟩:=zi9 hX h Hp;have hD:=zl6 h de;have hN:=zdk hX h;have hb:(zaC X D since).begun=true:=t2.trans hG.ran;have hs:(elF Nd.id (zaC X D since).L x).isSome=true:=by rw[t1,hN x,if_pos hx];rfl
 have hc:x∉chL X.S since:=λm=>ht ((zbk hD.wf).2 ⟨x,(zb3 hb).2 ⟨t4 x m,hs⟩,.inl rfl⟩);obtain⟨s,f1,f2⟩:=hD.st hb x hs ht;have bG:(elF Nd.id D.L x).isSome=true:=by rw[h.old x hx hc];rfl
 obtain⟨s',g1,g2⟩:=hG.dok.st hG.ran x bG (by rw[hG.clean];exact not_mem_nil);rw[t3,g2]at f2;injection f2 with f2;unfold oX eX;rw[f1,g1,f2,hP x hx hc];exact⟨rfl,rfl⟩
theorem ze5(hX:WX X)(h:zhk X D since)(Hp:∀x,zai X.S x=true->okM (zaS X x).pl=true){x:Int}(hx:zai X.S x=false):oX X (zaC X D since).L x=none/\eX X (zaC X D since).L x=0:=by
 refine zdl ?_;rw[(zi9 hX h Hp).1,zdk hX h x,hx];rfl
theorem zh9(hX:WX X)(h:zhk X D since)(Hp:∀x,zai X.S x=true->okM (zaS X x).pl=true)(de:∀x,zai X.S x=true->Rg (zaS X x).id/\Rg (zaS X x).par)(hb:D.begun=false)(x:Int):x∈zah (zaC X D since)↔zai X.S x=true:=by
 obtain⟨t1,t2,_,_⟩:=zi9 hX h Hp;have hD:=zl6 h de;have e:(elF Nd.id (zaC X D since).L x).isSome=true↔zai X.S x=true:=by
  rw[t1,zdk hX h x]
  by_cases c:zai X.S x=true
  ·rw[if_pos c];exact⟨λ_=>c,λ_=>rfl⟩
  ·rw[if_neg c];exact⟨λq=>(by cases q),λq=>absurd q c⟩
 refine⟨λm=>e.1 (zbo hD.wf m),λl=>(zbk hD.wf).2 ⟨x,?_,.inl rfl⟩⟩;unfold zbU;rw[t2,hb,if_neg (by decide)];exact zbg.2 (e.2 l)
end
end Go.Proofs.YtlibdcmcbinfnaaGreat
