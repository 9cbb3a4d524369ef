/- Lemmas. -/
import Derived.Test.YtlibdcmcbinfnaaGreatMS27
import Derived.ShutString
import Derived.ChangeOld
set_option maxHeartbeats 100000000
set_option maxRecDepth 1000000
set_option linter.unusedVariables false
namespace Go.Proofs.YtlibdcmcbinfnaaGreat
open _root_.Go.Proofs.Tryz List Nat
open Go.RowKit
open Go.ChangeShapes Go.WideShapes Go.ChangeAt Go.RowKit Go.Deep
instance:Inhabited Rc:=⟨zRc⟩
theorem zt2{A:List Rc}(h:zdp A)(zs:List Int):zdp (zht A zs):=List.Pairwise.sublist filter_sublist h
theorem zt3(A:List Rc)(zs:List Int)(k:Int):look k (zht A zs)=if k∈zs then none else look k A:=by
 unfold look zht;rw[find?_filter]
 by_cases h:k∈zs
 ·rw[if_pos h,find?_eq_none];intro x hx
  by_cases e:x.id=k
  ·rw[e];simp[h]
  ·simp[e]
 ·rw[if_neg h];refine congrArg (λf=>find? f A) (funext λr=> ?_)
  by_cases e:r.id=k
  ·rw[e];simp[h]
  ·simp[e]
def Wk(o:Int->Option Rc)(R0:List Rc)(zs:List Int)(R:List Rc):Prop:=zdp R/\∀k,look k R=if k∈zs then o k else look k R0
variable{o:Int->Option Rc}{R0 R:List Rc}{zs us:List Int}{e:Int->Int}{L:List Nd}{X:Sc}{x:Int}
theorem Wk.nil(h:zdp R0):Wk o R0 [] R0:=⟨h,λk=>by simp⟩
theorem Wk.one{R':List Rc}(h:Wk o R0 zs R)(h':Wk o R0 zs R'):R=R':=
 znr h.1 h'.1 (λk=>(h.2 k).trans (h'.2 k).symm)
theorem Wk.whole(h:Wk o R0 zs R)(h0:∀k,k∉zs->look k R0=o k)(k:Int):look k R=o k:=by
 rw[h.2 k]
 by_cases c:k∈zs
 ·rw[if_pos c]
 ·rw[if_neg c,h0 k c]
theorem zfx(h:zdp R):(R.map Rc.id).Pairwise (·<·):=List.pairwise_map.2 h
theorem zi1(h:zdp R):(R.map Rc.id).Nodup:=(zfx h).imp (fun {a b} k e=>om)
theorem zd7{k:Int}:(look k R).isSome=true↔k∈R.map Rc.id:=by
 rw[mem_map];constructor
 ·intro h;obtain⟨r,hr⟩:=Option.isSome_iff_exists.1 h;exact⟨r,zeZ hr⟩
 ·rintro⟨r,h1,h2⟩;obtain⟨y,hy⟩:=zhd h1 h2;rw[hy];rfl
def zbp(e:Int->Int)(zs:List Int):Int:=match zs.find? (λx=>decide (e x≠0)) with | some x=>e x | none=>0
theorem zdh(e:Int->Int)(x:Int)(zs:List Int):zbp e (x::zs)=if e x=0 then zbp e zs else e x:=by
 unfold zbp
 by_cases c:e x=0
 ·rw[if_pos c,find?_cons_of_neg (by simpa using c)]
 ·rw[if_neg c,find?_cons_of_pos (by simpa using c)]
theorem zh3:zbp e zs=0↔∀x∈zs,e x=0:=by
 induction zs with
 | nil=>exact⟨λ_ x h=>(by cases h),λ_=>rfl⟩
 | cons a zs ih=>
  rw[zdh];constructor
  ·intro h
   split at h
   ·rename_i c
    intro x hx;rcases mem_cons.1 hx with rfl | hx
    ·exact c
    ·exact ih.1 h x hx
   ·rename_i c
    exact absurd h c
  ·intro h;rw[if_pos (h a mem_cons_self)];exact ih.2 (λx hx=>h x (mem_cons_of_mem _ hx))
theorem zdY(e:Int->Int)(f:Int->Bool):∀ {zs:List Int},(∀x∈zs,f x=false->e x=0)->zbp e (zs.filter f)=zbp e zs
 | [],_=>rfl
 | a::zs,h=>by
  have ih:=zdY e f (λx hx=>h x (mem_cons_of_mem _ hx));rw[zdh]
  cases c:f a with
  | true=>rw[filter_cons_of_pos c,zdh,ih]
  | false=>rw[filter_cons_of_neg (by rw[c];decide),ih,if_pos (h a mem_cons_self c)]
theorem zvv(ha:us.Pairwise (·<·))(hz:zs.Pairwise (·<·))(h:∀x∈zs,x∈us):zs=us.filter (λx=>decide (x∈zs)):=by
 induction us generalizing zs with
 | nil=>
  cases zs with
  | nil=>rfl
  | cons z zs=>cases h z mem_cons_self
 | cons a us ih=>
  obtain⟨a1,a2⟩:=pairwise_cons.1 ha
  cases zs with
  | nil=>rw[filter_eq_nil_iff.2 (λx _=>by simp)]
  | cons z zs=>
   obtain⟨z1,z2⟩:=pairwise_cons.1 hz
   by_cases c:z=a
   ·subst c;rw[filter_cons_of_pos (by simp)];congr 1;have h2:∀x∈zs,x∈us:=λx hx=>by
     rcases mem_cons.1 (h x (mem_cons_of_mem _ hx)) with e | m
     ·have:=z1 x hx;omega
     ·exact m
    refine (ih a2 z2 h2).trans (filter_congr (λx hx=> ?_));have:=a1 x hx;have Ho:x≠z:=om;simp[Ho]
   ·have bO:z∈us:=(mem_cons.1 (h z mem_cons_self)).resolve_left c;have:=a1 z bO;have hna:a∉z::zs:=λm=>by
     rcases mem_cons.1 m with e | m
     ·omega
     ·have:=z1 a m;omega
    rw[filter_cons_of_neg (by simpa using hna)];refine ih a2 hz (λx hx=>(mem_cons.1 (h x hx)).resolve_left (λe=> ?_));rw[e]at hx;exact hna hx
theorem zrA(ha:us.Pairwise (·<·))(hz:zs.Pairwise (·<·))(h:∀x∈zs,x∈us)(h0:∀x∈us,x∉zs->e x=0):zbp e zs=zbp e us:=by
 rw[zvv ha hz h];exact zdY e _ (λx hx c=>h0 x hx (by simpa using c))
theorem zrB{l:List Nd}(hL:(L.map Nd.id).Nodup)(hl:∀a∈l,∀b∈l,a.id=b.id->a=b)(y:Int):elF Nd.id (withS L l) y=(elF Nd.id l y).or (elF Nd.id L y):=by
 cases c:elF Nd.id l y with
 | none=>
  rw[Option.none_or];refine zeU hL (λm hm=>zcM (λq=> ?_));obtain⟨n,hn,e⟩:=mem_map.1 q;exact zcY.1 c n hn om
 | some n=>
  rw[Option.some_or];have h1:=zbZ c;have hin:n∈withS L l:=by
   clear c
   induction l generalizing L with
   | nil=>cases h1.2
   | cons a l ih=>
    show n∈withS (zgW L a) l
    by_cases m:n∈l
    ·exact ih (zeV hL a) (λa ha b hb=>hl a (mem_cons_of_mem _ ha) b (mem_cons_of_mem _ hb)) ⟨h1.1,m⟩
    ·have e:n=a:=(mem_cons.1 h1.2).resolve_right m;refine (zcM (λq=>m ?_)).2 (zb1.2 (.inr e));obtain⟨b,hb,q⟩:=mem_map.1 q;rw[<-hl b (mem_cons_of_mem _ hb) n h1.2 q];exact hb
  have:=zdT (zcL l hL) hin;rw[h1.1]at this;exact this
theorem zt4(h:WX X){zs:List Int}(hz:∀x∈zs,zai X.S x=true)(y:Int):elF Nd.id (zs.map (zaS X)) y=if y∈zs then some (zaS X y) else none:=by
 induction zs with
 | nil=>simp[elF]
 | cons a zs ih=>
  have ha:=zdW h (hz a mem_cons_self);have TF:=ih (λx hx=>hz x (mem_cons_of_mem _ hx));unfold elF at TF ⊢;rw[map_cons,find?_cons]
  by_cases e:a=y
  ·subst e;rw[ha,if_pos mem_cons_self];simp
  ·rw[show ((zaS X a).id==y)=false by rw[ha];simpa using e];rw[TF]
   by_cases c:y∈zs
   ·rw[if_pos c,if_pos (mem_cons_of_mem _ c)]
   ·rw[if_neg c,if_neg (λm=>(mem_cons.1 m).elim (λq=>e q.symm) c)]
structure zhg (X:Sc) (D:FD) (since:Int):Prop where
 dok:DOk D
 old:∀x,zai X.S x=true->x∉chL X.S since->elF Nd.id D.L x=some (zaS X x)
 gone:∀x,zai X.S x=false->(elF Nd.id D.L x).isSome=true->x∈goL X.S since
 went:∀x∈goL X.S since,zai X.S x=false
def zrC(X:Sc)(D:FD)(since:Int):List Nd:=withS (zbr D (goL X.S since)).L ((chL X.S since).map (zaS X))
section
variable {X:Sc} {D:FD} {since:Int}
theorem znv(h:zhg X D since):((zrC X D since).map Nd.id).Nodup:=zcL _ (h.dok.drops _).nod
theorem zdi(hX:WX X)(h:zhg X D since):zed X (zrC X D since):=λx=>by
 have hc:∀x∈chL X.S since,zai X.S x=true:=λx hx=>(zeI.1 hx).1;unfold zrC
 rw[zrB (h.dok.drops _).nod (λa ha b hb e=>by
  obtain⟨p,hp,rfl⟩:=mem_map.1 ha;obtain⟨q,hq,rfl⟩:=mem_map.1 hb;rw[zdW hX (hc p hp),zdW hX (hc q hq)]at e
  rw[e]),zt4 hX hc,ztO _ h.dok]
 by_cases c:x∈chL X.S since
 ·rw[if_pos c,if_pos (hc x c),Option.some_or]
 ·rw[if_neg c,Option.none_or]
  cases l:zai X.S x with
  | true=>rw[if_neg (λm=>by rw[h.went x m]at l;cases l),if_pos rfl,h.old x l c]
  | false=>
   by_cases g:x∈goL X.S since
   ·rw[if_pos g];rfl
   ·rw[if_neg g]
    cases e:elF Nd.id D.L x with
    | none=>rfl
    | some n=>exact absurd (h.gone x l (by rw[e];rfl)) g
theorem zt5(hX:WX X){L:List Nd}(hn:(L.map Nd.id).Nodup)(hN:zed X L):WF (zaj L):=by
 refine⟨zdP hn,λx=> ?_⟩;have key:∀ (l:List Int) (x:Int),IsA X.L x l->IsA (zaj L) x l:=by
  intro l
  induction l with
  | nil=>
   intro x hx;show zak (zaj L) x=none;rw[zkg hX hn hN];exact hx
  | cons y l ih=>
   intro x hx;exact⟨by rw[zkg hX hn hN];exact hx.1,ih y hx.2⟩
 exact⟨_,key _ x (hX.wf.isA x)⟩
theorem znw(hX:WX X)(h:zhg X D since)(H8:∀x,zai X.S x=true->okM (zaS X x).pl=true):zct (zbr D (goL X.S since)) ((chL X.S since).map (zaS X))=0:=by
 unfold zct;rw[if_neg,if_neg]
 ·intro q;obtain⟨n,_,e⟩:=any_eq_true.1 q;have:=zke (znv h) (zt5 hX (znv h) (zdi hX h)) n.id;have e':zhz (zrC X D since) n.id=true:=e;rw[this]at e'
  cases e'
 ·intro q;obtain⟨n,hn,e⟩:=any_eq_true.1 q;obtain⟨x,hx,rfl⟩:=mem_map.1 hn;have hl:=(zeI.1 hx).1;unfold zhA at e;rw[H8 x hl,zdW hX hl]at e;have:0<=x:=(zaU.1 hl).1;simp at e;omega
end
def oX(X:Sc)(L:List Nd)(x:Int):Option Rc:=match (zcd L x).1 with
 | some s=>if obR s.wo (zby X.S x) s.sh=true then some (zrx x (zby X.S x) s.wo) else none
 | none=>none
def eX(X:Sc)(L:List Nd)(x:Int):Int:=match (zcd L x).1 with
 | some s=>oeR s.wo (zby X.S x) s.sh
 | none=>0
theorem zkt{r:Rc}(h:oX X L x=some r):r.id=x:=by
 unfold oX at h
 cases c:(zcd L x).1 with
 | none=>rw[c]at h;cases h
 | some s=>
  simp only[c]at h
  by_cases d:obR s.wo (zby X.S x) s.sh=true
  ·rw[if_pos d]at h;injection h with h;rw[<-h];rfl
  ·rw[if_neg d]at h;cases h
def zaI(X:Sc)(D:FD)(since:Int):FD:=zcz (zbr D (goL X.S since)) ((chL X.S since).map (zaS X))
section
variable {X:Sc} {D:FD} {since:Int}
theorem zi2(hX:WX X)(h:zhg X D since)(H8:∀x,zai X.S x=true->okM (zaS X x).pl=true):(zaI X D since).L=zrC X D since/\(zaI X D since).begun=D.begun/\(zaI X D since).sts=D.sts/\∀x∈chL X.S since,x∈(zaI X D since).dirty:=by
 have e:=znw hX h H8;obtain⟨r1,r2⟩:=zh2 (goL X.S since) D;unfold zaI zcz;rw[if_pos e];refine⟨rfl,r1,r2,λx hx=>mem_append_right _ ?_⟩;rw[map_map];exact mem_map.2 ⟨x,hx,zdW hX (zeI.1 hx).1⟩
theorem zl0(h:zhg X D since)(Ci:∀x,zai X.S x=true->Rg (zaS X x).id/\Rg (zaS X x).par):DOk (zaI X D since):=
 (h.dok.drops _).put (λn hn=>by
  obtain⟨x,hx,rfl⟩:=mem_map.1 hn
  exact Ci x (zeI.1 hx).1)
structure zxe (X0:Sc) (D:FD) (R:List Rc):Prop where
 dok:DOk D
 ran:D.begun=true
 clean:zah D=[]
 rise:zdp R
 recs:∀k,look k R=oX X0 D.L k
 errs:∀k,eX X0 D.L k=0
theorem zdj(h:elF Nd.id L x=none):oX X L x=none/\eX X L x=0:=by
 unfold oX eX;rw[zg6 h];exact⟨rfl,rfl⟩
theorem znx{X0:Sc}(hX:WX X)(h:zhg X D since)(H8:∀x,zai X.S x=true->okM (zaS X x).pl=true)(Ci:∀x,zai X.S x=true->Rg (zaS X x).id/\Rg (zaS X x).par)
  (hG:zxe X0 D R)(hP:∀x,zai X.S x=true->x∉chL X.S since->zby X.S x=zby X0.S x){x:Int}(hx:zai X.S x=true)(ht:x∉zah (zaI X D since)):
  oX X (zaI X D since).L x=oX X0 D.L x/\eX X (zaI X D since).L x=eX X0 D.L x:=by
 obtain⟨t1,t2,t3,t4⟩:=zi2 hX h H8;have hD:=zl0 h Ci;have hN:=zdi hX h;have hb:(zaI X D since).begun=true:=t2.trans hG.ran;have hs:(elF Nd.id (zaI X D since).L x).isSome=true:=by rw[t1,hN x,if_pos hx];rfl
 have hc:x∉chL X.S since:=λm=>ht ((zbj hD.wf).2 ⟨x,(zb0 hb).2 ⟨t4 x m,hs⟩,.inl rfl⟩);obtain⟨s,f1,f2⟩:=hD.st hb x hs ht;have NC:(elF Nd.id D.L x).isSome=true:=by rw[h.old x hx hc];rfl
 obtain⟨s',g1,g2⟩:=hG.dok.st hG.ran x NC (by rw[hG.clean];exact not_mem_nil);rw[t3,g2]at f2;injection f2 with f2;unfold oX eX;rw[f1,g1,f2,hP x hx hc];exact⟨rfl,rfl⟩
theorem ze2(hX:WX X)(h:zhg X D since)(H8:∀x,zai X.S x=true->okM (zaS X x).pl=true){x:Int}(hx:zai X.S x=false):oX X (zaI X D since).L x=none/\eX X (zaI X D since).L x=0:=by
 refine zdj ?_;rw[(zi2 hX h H8).1,zdi hX h x,hx];rfl
theorem zh4(hX:WX X)(h:zhg X D since)(H8:∀x,zai X.S x=true->okM (zaS X x).pl=true)(Ci:∀x,zai X.S x=true->Rg (zaS X x).id/\Rg (zaS X x).par)(hb:D.begun=false)(x:Int):x∈zah (zaI X D since)↔zai X.S x=true:=by
 obtain⟨t1,t2,_,_⟩:=zi2 hX h H8;have hD:=zl0 h Ci;have e:(elF Nd.id (zaI X D since).L x).isSome=true↔zai X.S x=true:=by
  rw[t1,zdi hX h x]
  by_cases c:zai X.S x=true
  ·rw[if_pos c];exact⟨λ_=>c,λ_=>rfl⟩
  ·rw[if_neg c];exact⟨λq=>(by cases q),λq=>absurd q c⟩
 refine⟨λm=>e.1 (zbn hD.wf m),λl=>(zbj hD.wf).2 ⟨x,?_,.inl rfl⟩⟩;unfold zbT;rw[t2,hb,if_neg (by decide)];exact zbg.2 (e.2 l)
end
end Go.Proofs.YtlibdcmcbinfnaaGreat
