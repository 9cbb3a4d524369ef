/- Lemmas. -/
import Derived.Test.YtlibdcmcbinfnaaGreatMS18
set_option maxHeartbeats 100000000
set_option maxRecDepth 1000000
namespace Go.Proofs.YtlibdcmcbinfnaaGreat
open _root_.Go.Proofs.Tryz List Nat
open Go.RowKit
variable{xs ns:List Int}{n i cap:Nat}{c p z y x:Int}{w w1 w2:World}{M:Nat->Prop}{L:FT}{a:Option Addr}
theorem zj7{X:List Value}(ht:X.take i=(xs.take i).map (Value.int .i64))(hx:xs.length=n)(hi:i<=n):
  (zaL (zaL X i [.int .i64 c]) (i+1) ((xs.drop i).map (Value.int .i64))).take (n+1)=(xs.take i++c::xs.drop i).map (Value.int .i64):=by
 have hd:((xs.drop i).map (Value.int .i64)).length=n - i:=by rw[length_map,length_drop];omega
 have h1:(zaL X i [.int .i64 c]).take (i+1)=(xs.take i).map (Value.int .i64)++[.int .i64 c]:=by
  unfold zaL;rw[ht,take_append_of_le_length (by simp;omega),take_of_length_le (by simp;omega)]
 rw[show zaL (zaL X i [.int .i64 c]) (i+1) ((xs.drop i).map (Value.int .i64))=(zaL X i [.int .i64 c]).take (i+1)++(xs.drop i).map (Value.int .i64)++(zaL X i [.int .i64 c]).drop (i+1+((xs.drop i).map (Value.int .i64)).length) from rfl,h1];rw[take_append_of_le_length (by rw[length_append,length_append,length_map,length_take,hd];simp;omega),take_of_length_le (by rw[length_append,length_append,length_map,length_take,hd];simp;omega)];simp
theorem zeo(w:World):Bw w w.drew:=⟨rfl,rfl,rfl,Nat.le_refl _,λ_ _=>rfl⟩
theorem ztB{base vb:Nat}{v:Value}(h:OwnD w base v n xs)(H9:base<=w.heap.size)(hv:Blk w vb 81 #[.int .i64 c])(jI:v.ownBlock≠some vb)(hi:i<=n)(hn:n<=100000):
  Calls prog 184 #[v,.int .i64 i,.slice (some ⟨vb,0,none⟩) 1 1] w λe w'=>
   ∃b cap,e= .returned (.slice (some ⟨b,0,none⟩) (n+1) cap)/\OwnD w' base (.slice (some ⟨b,0,none⟩) (n+1) cap) (n+1) (xs.take i++c::xs.drop i)/\w.grownBy w' v.ownBlock/\(v.ownBlock=some b∨w.heap.size<=b):=by
 have ku:=h.len
 by_cases hin:i=n
 ·subst hin;refine (ztA h H9 hv hn).mono ?_;rintro e w' ⟨v',rfl,k1,k2,k3⟩;rw[take_of_length_le om,drop_of_length_le om];rcases k1.2 with ⟨_,q⟩ | ⟨g,cap,cur,rfl,_⟩
  ·omega
  ·refine⟨g,cap,rfl,k1,k2,?_⟩;rcases k3 with q | q
   ·exact .inl q.symm
   ·have e2:g=w.heap.size:=by injection q
    exact .inr om
 ·rcases h.2 with ⟨_,q⟩ | ⟨g,cap,cur,rfl,_⟩
  ·omega
  ·obtain⟨X,kD,zS,vc,ZW,hm,vi⟩:=h.cells;have Ho:vb≠g:=λe=>jI (by rw[e];rfl);have Ca:((xs.drop i).map (Value.int .i64)).length=n - i:=by rw[length_map,length_drop,ku]
   by_cases ds:n+1<=cap
   ·refine (zoC h hv Ho om ds).mono ?_;rintro e w' ⟨rfl,rfl⟩;have b1:Blk (w.drew.setCells g (i+1) ((xs.drop i).map (Value.int .i64))) g 81 (zaL X (i+1) ((xs.drop i).map (Value.int .i64))).toArray:=zaf _ (show Blk w.drew g _ _ from kD) (by rw[Ca];omega);have l1:=zb6 (X:=X) (o:=i+1) (vs:=(xs.drop i).map (Value.int .i64)) (by rw[Ca];omega);have b2:=zaf [Value.int .i64 c] (o:=i) b1 (by rw[l1];simp;omega);refine⟨g,cap,rfl,OwnD.of_cells b2 ?_ (zlK vc om ku hi) om hm vi,?_,.inl rfl⟩
    ·rw[zb6 (by rw[l1];simp;omega),l1,zS]
    ·exact zap (zap (zaQ (zeo w) _) (za3 _ _ _ _)) (za3 _ _ _ _)
   ·refine (zq6 h hv om om hn).mono ?_;rintro e w' ⟨G,ROW,rfl,bn,SC,hR,bp,rfl⟩;have b0:Blk (w.alloc (.cells ROW.toArray 81)).drew w.heap.size 81 ROW.toArray:=Blk.new w _ _;have b1:=zaf [Value.int .i64 c] (o:=i) b0 (by simp;omega);have l1:=zb6 (X:=ROW) (o:=i) (vs:=[Value.int .i64 c]) (by simp;omega);have b2:=zaf ((xs.drop i).map (Value.int .i64)) (o:=i+1) (show Blk ((w.alloc (.cells ROW.toArray 81)).drew.setCells w.heap.size i [.int .i64 c]).drew _ _ _ from b1) (by rw[l1,Ca];omega);refine⟨w.heap.size,G,rfl,OwnD.of_cells b2 ?_ (zj7 bp ku hi) bn SC H9,?_,.inr (Nat.le_refl _)⟩
    ·rw[zb6 (by rw[l1,Ca];omega),l1,hR]
    ·have q0:Bw w (w.alloc (.cells ROW.toArray 81)).drew:=zad (zaa w _) (zeo _);have q1:=zab [Value.int .i64 c] (g:=w.heap.size) (o:=i) q0 (Nat.le_refl _);have q2:Bw w ((w.alloc (.cells ROW.toArray 81)).drew.setCells w.heap.size i [.int .i64 c]).drew:=zad q1 (zeo _);exact zaQ (zab _ q2 (Nat.le_refl _)) _
def chO(L:FT)(bl cp:Int->Nat)(x:Int):Option (Nat × Nat × Nat):=if chF L x=[] then none else some (bl x,(chF L x).length,cp x)
structure LF (w:World) (g:Nat) (L:FT) (gp gc:Nat) (bl cp:Int->Nat):Prop where
 blk:Blk w g 142 #[.map (some gp),.map (some gc)]
 par:MF pK w gp (zak L)
 chd:MF cK w gc (chO L bl cp)
 row:∀x,chF L x≠[]->OwnD w 0 (.slice (some ⟨bl x,0,none⟩) (chF L x).length (cp x)) (chF L x).length (chF L x)
 inj:∀x y,chF L x≠[]->chF L y≠[]->bl x=bl y->x=y
 ne1:g≠gp
 ne2:g≠gc
 ne3:gp≠gc
 off:∀x,chF L x≠[]->bl x≠g/\bl x≠gp/\bl x≠gc
 rng:∀p∈L,Rg p.1/\Rg p.2
def zfN(L:FT)(g gp gc:Nat)(bl:Int->Nat)(b:Nat):Prop:=b=g∨b=gp∨b=gc∨∃x,chF L x≠[]/\b=bl x
def LFB(w:World)(g:Nat)(F:Nat->Prop)(L:FT):Prop:=∃gp gc bl cp,LF w g L gp gc bl cp/\∀b,F b↔zfN L g gp gc bl b
section
variable {w w':World} {g gp gc:Nat} {L L':FT} {bl cp bl' cp':Int->Nat} {F:Nat->Prop}
theorem LF.inb(h:LF w g L gp gc bl cp):∀b,zfN L g gp gc bl b->b<w.heap.size:=by
 rintro b (rfl | rfl | rfl | ⟨x,hx,rfl⟩)
 ·exact h.blk.lt
 ·exact h.par.lt
 ·exact h.chd.lt
 ·exact ((h.row x hx).lt _ rfl).2
theorem LF.same(h:LF w g L gp gc bl cp)(he:∀b,zfN L g gp gc bl b->w'.heap[b]? =w.heap[b]?):LF w' g L gp gc bl cp:=
 ⟨h.blk.same (he g (.inl rfl)),h.par.same (he gp (.inr (.inl rfl))),h.chd.same (he gc (.inr (.inr (.inl rfl)))),λx hx=>(h.row x hx).same (λb e=>he b (.inr (.inr (.inr ⟨x,hx,by injection e with e;exact e.symm⟩)))),h.inj,h.ne1,h.ne2,h.ne3,h.off,h.rng⟩
theorem LF.keep(h:LF w g L gp gc bl cp)(hb:Bw w w'):LF w' g L gp gc bl cp:=h.same (λb hf=>hb.block b (h.inb b hf))
theorem LF.c0(h:LF w g L gp gc bl cp):w.cell? ⟨g,0,none⟩=some (.map (some gp)):=h.blk.cell 0
theorem LF.c1(h:LF w g L gp gc bl cp):w.cell? ⟨g,1,none⟩=some (.map (some gc)):=h.blk.cell 1
theorem LFB.keep_(h:LFB w g F L)(he:∀b,F b->w'.heap[b]? =w.heap[b]?):LFB w' g F L:=by
 obtain⟨gp,gc,bl,cp,h1,h2⟩:=h;exact⟨gp,gc,bl,cp,h1.same (λb hb=>he b ((h2 b).2 hb)),h2⟩
theorem LFB.inb(h:LFB w g F L):∀b,F b->b<w.heap.size:=by
 obtain⟨gp,gc,bl,cp,h1,h2⟩:=h;exact λb hb=>h1.inb b ((h2 b).1 hb)
theorem LFB.keep(h:LFB w g F L)(hb:Bw w w'):LFB w' g F L:=h.keep_ (λb hf=>hb.block b (h.inb b hf))
theorem LF.fam(h:LF w g L gp gc bl cp)(x:Int):OwnD w 0 (cV (chO L bl cp x)) (chF L x).length (chF L x):=by
 unfold chO
 by_cases c:chF L x=[]
 ·rw[if_pos c,c];exact OwnD.nil _ _
 ·rw[if_neg c];exact h.row x c
theorem LF.rowOf(h:LF w g L gp gc bl cp)(x:Int):∃a cap,cV (chO L bl cp x)= .slice a (chF L x).length cap/\Row w a (chF L x).length (chF L x):=(h.fam x).row
theorem LF.step(h:LF w g L gp gc bl cp)(hF:∀b,F b↔zfN L g gp gc bl b){p:Int}
  (kE:Fr w w' (λb=>b=gp∨b=gc∨(chF L p≠[]/\b=bl p)))
  (eN:MF pK w' gp (zak L'))(jo:MF cK w' gc (chO L' bl' cp'))
  (Hd:chF L' p≠[]->OwnD w' 0 (.slice (some ⟨bl' p,0,none⟩) (chF L' p).length (cp' p)) (chF L' p).length (chF L' p))
  (Ht:chF L' p≠[]->(chF L p≠[]/\bl' p=bl p)∨w.heap.size<=bl' p)
  (cJ:∀x,x≠p->chF L' x=chF L x/\bl' x=bl x/\cp' x=cp x)
  (eO:∀q∈L',Rg q.1/\Rg q.2):LF w' g L' gp gc bl' cp'/\ChF LFB w w' g F L':=by
 have hst:∀b,b<w.heap.size->b≠gp->b≠gc->(chF L p≠[]->b≠bl p)->w'.heap[b]? =w.heap[b]? :=λb hb h1 h2 h3=>kE.2.2.2.2 b hb (λc=>by
  rcases c with c | c | ⟨c,d⟩
  ·exact h1 c
  ·exact h2 c
  ·exact h3 c d)
 have hg:=h.blk.lt;have Ev:=h.par.lt;have gD:=h.chd.lt;have hin:∀x,chF L x≠[]->bl x<w.heap.size:=λx hx=>((h.row x hx).lt _ rfl).2;have Ex:LF w' g L' gp gc bl' cp':=by
  refine⟨h.blk.same (hst g hg h.ne1 h.ne2 (λc e=>(h.off p c).1 e.symm)),eN,jo,λx hx=> ?_,λx y hx hy e=> ?_,h.ne1,h.ne2,h.ne3,λx hx=> ?_,eO⟩
  ·by_cases c:x=p
   ·rw[c]at hx ⊢;exact Hd hx
   ·obtain⟨e1,e2,e3⟩:=cJ x c;rw[e1]at hx ⊢;rw[e2,e3];refine (h.row x hx).same (λb e=> ?_);injection e with e;have e:bl x=b:=e;subst e;exact hst _ (hin x hx) (h.off x hx).2.1 (h.off x hx).2.2 (λd e=>c (h.inj x p hx d e))
  ·by_cases c:x=p
   ·by_cases d:y=p
    ·rw[c,d]
    ·exfalso;obtain⟨e1,e2,_⟩:=cJ y d;rw[e1]at hy;rw[e2,c]at e;rw[c]at hx;rcases Ht hx with ⟨q,q2⟩ | q
     ·rw[q2]at e;exact d (h.inj p y q hy e).symm
     ·have:=hin y hy;omega
   ·obtain⟨e1,e2,_⟩:=cJ x c;rw[e1]at hx
    by_cases d:y=p
    ·exfalso;rw[e2,d]at e;rw[d]at hy;rcases Ht hy with ⟨q,q2⟩ | q
     ·rw[q2]at e;exact c (h.inj x p hx q e)
     ·have:=hin x hx;omega
    ·obtain⟨f1,f2,_⟩:=cJ y d;rw[f1]at hy;rw[e2,f2]at e;exact h.inj x y hx hy e
  ·by_cases c:x=p
   ·rw[c]at hx ⊢;rcases Ht hx with ⟨q,q2⟩ | q
    ·rw[q2];exact h.off p q
    ·exact⟨om,om,om⟩
   ·obtain⟨e1,e2,_⟩:=cJ x c;rw[e1]at hx;rw[e2];exact h.off x hx
 refine⟨Ex,zfN L' g gp gc bl',⟨gp,gc,bl',cp',Ex,λ_=>Iff.rfl⟩,?_,?_⟩
 ·exact Fr.of kE (λb c=>(hF b).2 (by
   rcases c with c | c | ⟨c,d⟩
   ·exact .inr (.inl c)
   ·exact .inr (.inr (.inl c))
   ·exact .inr (.inr (.inr ⟨p,c,d⟩))))
 ·rintro b (e | e | e | ⟨x,hx,e⟩)
  ·exact .inl ((hF b).2 (.inl e))
  ·exact .inl ((hF b).2 (.inr (.inl e)))
  ·exact .inl ((hF b).2 (.inr (.inr (.inl e))))
  ·by_cases c:x=p
   ·rw[c]at hx e;rcases Ht hx with ⟨q,q2⟩ | q
    ·exact .inl ((hF b).2 (.inr (.inr (.inr ⟨p,q,by rw[e,q2]⟩))))
    ·exact .inr om
   ·obtain⟨e1,e2,_⟩:=cJ x c;rw[e1]at hx;exact .inl ((hF b).2 (.inr (.inr (.inr ⟨x,hx,by rw[e,e2]⟩))))
theorem zg4(w:World)(M:Nat->Prop):Fr w w M:=⟨rfl,rfl,rfl,Nat.le_refl _,λ_ _ _=>rfl⟩
theorem zcS{r:Option Nat}(h:Fr w w1 M)(hg:w1.grownBy w2 r)(hr:∀b,r=some b->M b∨w.heap.size<=b):Fr w w2 M:=
 ⟨hg.os.trans h.1,hg.tape.trans h.2.1,hg.output.trans h.2.2.1,Nat.le_trans h.2.2.2.1 hg.size,λb hb hn=>(hg.block b (Nat.lt_of_lt_of_le hb h.2.2.2.1) (λe=>(hr b e.symm).elim hn (λq=>om))).trans (h.2.2.2.2 b hb hn)⟩
theorem znb(h:Fr w w1 M)(hb:Bw w1 w2):Fr w w2 M:=Fr.behind h hb
end
def c9(x:A9):List Value:=[.int .u8 x.k,.slice x.a x.n x.cap]
section
variable {FB:World->Nat->(Nat->Prop)->FT->Prop}
theorem zwT(w:World)(t:TypeId)(xs:List Int)(h:xs.length<=1000):Row (w.alloc (.cells (xs.map (Value.int .i64)).toArray t)) (some ⟨w.heap.size,0,none⟩) xs.length xs:=by
 refine⟨rfl,om,.inr ⟨w.heap.size,0,rfl,λi hi=> ?_⟩⟩;have:=(Blk.new w t (xs.map (Value.int .i64)).toArray).cell (0+i);rw[this];simp[hi,getD]
end
section
variable {w:World} {g gp gc:Nat} {L:FT} {bl cp:Int->Nat}
theorem zlL(h:∀p∈L,Rg p.1/\Rg p.2){z y:Int}(hp:zak L z=some y):Rg z/\Rg y:=h _ (zbo hp)
theorem zq7(hn:(L.map Prod.fst).Nodup)(h:∀p∈L,Rg p.1/\Rg p.2){x z:Int}(hz:z∈chF L x):Rg z:=(zlL h ((zaA hn).1 hz)).1
theorem zwU(h:WF L){c p:Int}(hc:c∈abv L p):chF L c≠[]:=λe=>by
 have h1:p∈beh L c:=(ziA h).2 (.inr hc);rw[zqE h,e]at h1;rw[flatMap_nil,mem_singleton]at h1;rw[h1]at hc;exact zfo h c hc
theorem zep(h:LF w g L gp gc bl cp){x:Int}(hx:Rg x):
  Calls prog 251 #[.pointer (some ⟨g,0,none⟩),.int .i64 x] w λe w'=>e= .returned (.tuple #[.int .i64 (zjr (zak L x)),.bool (zak L x).isSome])/\w=w':=by
 have c0:=h.c0;have hg:=h.blk.lt;have hl:(Instr.lookup 139 (.map (some gp)) (.int .i64 x) true).run prog w= .ok (.tuple #[.int .i64 (zjr (zak L x)),.bool (zak L x).isSome]) w:=h.par.look hx;obtain⟨pv,X7⟩:∃pv,pv=zjr (zak L x):=⟨_,rfl⟩;obtain⟨pb,zU⟩:∃pb,pb=(zak L x).isSome:=⟨_,rfl⟩;rw[<-X7,<-zU]at hl ⊢;clear h X7 zU;go_enter func251,ntmps251;go_wp2;go_ret2;exact⟨rfl,rfl⟩
theorem zeS(h:LF w g L gp gc bl cp)(hL:L.length<=1000){x:Int}(hx:Rg x):
  Calls prog 121 #[.pointer (some ⟨g,0,none⟩),.int .i64 x] w λe w'=>∃v,e= .returned v/\OwnD w' w.heap.size v (chF L x).length (chF L x)/\Bw w w':=by
 have c1:=h.c1;have hg:=h.blk.lt;obtain⟨a,cap,hv,hr⟩:=h.rowOf x;have hl:(Instr.lookup 140 (.map (some gc)) (.int .i64 x) false).run prog w= .ok (cV (chO L bl cp x)) w:=h.chd.get hx;rw[hv]at hl;have hn:=zen L x;have HC:=kA (zhW (cap:=cap) hr om);obtain⟨n,KL⟩:∃n,n=(chF L x).length:=⟨_,rfl⟩;rw[<-KL]at hl HC ⊢;clear h hv hr hn KL;go_enter func121,ntmps121;go_wp2_with fail;refine HC.mono ?_;rintro e w1 ⟨v,rfl,k1,k2⟩;have K:=kA (And.intro k1 k2);clear k1 k2;go_wp2;go_ret;exact⟨v,rfl,K⟩
theorem zeq(h:Row w a n xs)(hn:n<=100000)(hs:xs.Pairwise (·<=·))(x:Int):
  Calls prog 182 #[.slice a n cap,.int .i64 x] w λe w'=>e= .returned (.tuple #[.int .i64 (zhB xs x:Nat),.bool (decide (x∈xs))])/\Bw w w':=by
 refine (zq5 h hn hs x).mono ?_;rintro e w' ⟨rfl,q,rfl⟩;exact⟨rfl,Go.below_drewN (Below.refl _ _) q⟩
def zec(L:FT)(ns:List Int)(x:Int):Bool:=(abv L x).any (λa=>decide (a∈ns))
theorem zq8(h:WF L){ns:List Int}{x:Int}(hp:zak L x=none):zec L ns x=false:=by
 unfold zec;rw[zeM h hp];rfl
theorem zq9(h:WF L){ns:List Int}{x y:Int}(hp:zak L x=some y):zec L ns x=(decide (y∈ns) || zec L ns y):=by
 unfold zec;rw[za0 h hp];rfl
theorem znc(h:LF w g L gp gc bl cp)(hW:WF L){x:Int}(hx:Rg x){a:Option Addr}{n cap:Nat}{ns:List Int}(hr:Row w a n ns)(hn:n<=100000)(hs:ns.Pairwise (·<=·)):
  Calls prog 181 #[.pointer (some ⟨g,0,none⟩),.int .i64 x,.slice a n cap] w λe w'=>e= .returned (.bool (zec L ns x))/\Bw w w':=by
 have d9:Hid (∀u z,Bw w u->Rg z->(Instr.lookup 139 (.map (some gp)) (.int .i64 z) true).run prog u= .ok (.tuple #[.int .i64 (zjr (zak L z)),.bool (zak L z).isSome]) u/\u.cell? ⟨g,0,none⟩=some (.map (some gp))/\g<u.heap.size):=kA (λu z q hz=>⟨(h.keep q).par.look hz,(h.keep q).c0,(h.keep q).blk.lt⟩);have Kn:Hid (∀u y,Bw w u->Calls prog 182 #[.slice a n cap,.int .i64 y] u λe w'=>e= .returned (.tuple #[.int .i64 (zhB ns y:Nat),.bool (decide (y∈ns))])/\Bw u w'):=kA (λu y q=>zeq (zar hr q) hn hs y);have Dj:Hid (∀z y,zak L z=some y->Rg y):=kA (λz y e=>(zlL h.rng e).2);have HW:=kA hW;obtain⟨hl,c0,hg⟩:=d9.out w x (Below.refl _ _) hx;clear h hW hr hs;go_enter func181,ntmps181;go_wp2
 go_loopw [7,8,9,10] (λv7 v8 _ _ wr=>∃z:Int,v7= .int .i64 (zjr (zak L z))/\v8= .bool (zak L z).isSome/\zec L ns x=zec L ns z/\Bw w wr) (λv7 v8 _ _ _=>match v8 with | .bool true=>abM L v7 | _=>0)
 case atStart=>exact⟨x,rfl,rfl,rfl,Below.refl _ _⟩
 case round=>
  clear hl c0 hg hx;obtain⟨z,rfl,rfl,he,hb⟩:=hrel;have HE:=kA he;have HB:=kA hb;clear he hb
  cases C9:zak L z with
  | none=>
   have HR:=kA (HE.trans (zq8 HW C9));clear C9;go_wp2;go_ret;exact⟨by rw[HR.out];rfl,HB⟩
  | some y=>
   have HR:=kA (HE.trans (zq9 HW C9));have HY:=kA (Dj z y C9);clear C9;have e1:zjr (some y)=y:=rfl;rw[e1];have HF:=kA (Kn _ y HB);obtain⟨fb,zV⟩:∃fb,fb=decide (y∈ns):=⟨_,rfl⟩;obtain⟨fc,Z7⟩:∃fc,fc=zhB ns y:=⟨_,rfl⟩;rw[<-zV,<-Z7]at HF;rw[<-zV]at HR;clear zV Z7;go_wp2_with fail;refine HF.mono ?_;rintro e w1 ⟨rfl,b1⟩;have Hk:=kA (zad HB b1);clear b1 HF
   cases fb with
   | true=>
    go_wp2;go_ret;exact⟨by rw[HR.out];rfl,Hk⟩
   | false=>
    obtain⟨hl,c0,hg⟩:=d9.out w1 y Hk HY;go_wp2;go_roundw
    case rel=>exact⟨y,rfl,rfl,by rw[HR.out];rfl,Hk⟩
    case measure=>
     show _<abM L (.int .i64 y);have hlt:∀o,zak L y=o->(match (Value.bool o.isSome) with | .bool true=>abM L (.int .i64 (zjr o)) | _=>0)<abM L (.int .i64 y):=λo ho=>by
      cases o with
      | none=>show 0<_;unfold abM;omega
      | some y2=>
       show abM L (.int .i64 y2)<_;unfold abM;show (abv L y2).length+1<(abv L y).length+1;rw[za0 HW ho,length_cons];omega
     exact hlt _ rfl
theorem ztC(c x:Int):zec L [c] x=decide (c∈abv L x):=by
 unfold zec;rw[Bool.eq_iff_iff,any_eq_true,decide_eq_true_eq];constructor
 ·rintro⟨a,ha,e⟩;have:a=c:=by simpa using e
  rw[<-this];exact ha
 ·intro hc;exact⟨c,hc,by simp⟩
theorem zj8(h:LF w g L gp gc bl cp)(hW:WF L){c p:Int}(hc:Rg c)(hp:Rg p):
  Calls prog 113 #[.pointer (some ⟨g,0,none⟩),.int .i64 c,.int .i64 p] w λe w'=>e= .returned (.bool (decide (c∈abv L p)))/\Bw w w':=by
 have c1:=h.c1;have hg:=h.blk.lt;obtain⟨a,cap,hv,hr⟩:=h.rowOf c;have hl:(Instr.lookup 140 (.map (some gc)) (.int .i64 c) false).run prog w= .ok (cV (chO L bl cp c)) w:=h.chd.get hc;rw[hv]at hl
 have HH:Hid (Calls prog 181 #[.pointer (some ⟨g,0,none⟩),.int .i64 p,.slice (some ⟨w.heap.size,0,none⟩) 1 1] (w.alloc (.cells #[.int .i64 c] 81)) λe w'=>e= .returned (.bool (decide (c∈abv L p)))/\Bw w w'):=kA (by
  have Hf:Bw w (w.alloc (.cells #[.int .i64 c] 81)):=zaa _ _;have:=znc (cap:=1) (h.keep Hf) hW hp (zwT w 81 [c] (by simp)) (by simp) (by simp);rw[ztC]at this
  exact this.mono λe w' q=>⟨q.1,zad Hf q.2⟩)
 have Hm:Hid ((chF L c).length=0->decide (c∈abv L p)=false):=kA (λe=>decide_eq_false (λk=>zwU hW k (eq_nil_of_length_eq_zero e)));obtain⟨n,KL⟩:∃n,n=(chF L c).length:=⟨_,rfl⟩;obtain⟨rb,yT⟩:∃rb,rb=decide (c∈abv L p):=⟨_,rfl⟩;rw[<-KL]at hl Hm;rw[<-yT]at HH Hm ⊢;clear h hv hr KL yT hW
 by_cases hn:n=0
 ·subst hn;obtain rfl:=Hm.out rfl;go_enter func113,ntmps113;go_wp2;go_ret;exact⟨rfl,Below.refl _ _⟩
 ·have q:(0:Int)<(n:Int):=om;go_enter func113,ntmps113;go_wp2_with fail;refine HH.mono ?_;rintro e w1 ⟨rfl,b1⟩;have HB:=kA b1;clear b1;go_wp2;go_ret;exact⟨rfl,HB⟩
end
section
variable {w w1 w2 w3 w4:World} {g gp gc:Nat} {L:FT} {bl cp:Int->Nat} {F:Nat->Prop} {c p:Int}
theorem zaY{a b:World}{k k':Nat}(h:a.grownBy b (some k))(hk:k'<a.heap.size)(Ho:k'≠k):b.heap[k']? =a.heap[k']? :=h.block k' hk (λe=>Ho (by injection e))
theorem LF.cutEnd(h:LF w g L gp gc bl cp)(hF:∀b,F b↔zfN L g gp gc bl b)(hW:WF L)(hp:zak L c=some p)(Xg:MF pK w1 gp (upm (zak L) c none))(DT:w.grownBy w1 (some gp))(Kh:Bw w1 w2)
  (ZL:OwnD w3 0 (.slice (some ⟨bl p,0,none⟩) ((chF L p).length - 1) (cp p)) ((chF L p).length - 1) (ztv (chF L p) c))(dT:w2.grownBy w3 (some (bl p)))
  (vm:MF cK w4 gc (upm (chO L bl cp) p (if ztv (chF L p) c=[] then none else some (bl p,(chF L p).length - 1,cp p))))(Xj:w3.grownBy w4 (some gc)):ChF LFB w w4 g F (zaG L c):=by
 have hm:c∈chF L p:=(zaA hW.1).2 hp;have Ho:chF L p≠[]:=λe=>by rw[e]at hm;cases hm
 have dj:=zm9 (zb5 hW.1 p) hm;have hs:=zj3 hW.1 hp;have ho:=h.off p Ho;have M0:=Xg.lt;have M1:gp<w2.heap.size:=Nat.lt_of_lt_of_le M0 Kh.size;have eP:gp<w3.heap.size:=Nat.lt_of_lt_of_le M1 dT.size;have eQ:bl p<w3.heap.size:=(ZL.lt _ rfl).2;refine (h.step (L':=zaG L c) (bl':=bl) (cp':=cp) (p:=p) hF (zcS (zcS (znb (zcS (zg4 w _) DT (λb e=>Or.inl (.inl (by injection e with e;exact e.symm)))) Kh) dT (λb e=>Or.inl (.inr (.inr ⟨Ho,by injection e with e;exact e.symm⟩)))) Xj (λb e=>Or.inl (.inr (.inl (by injection e with e;exact e.symm))))) ?_ ?_ ?_ (λ_=>Or.inl ⟨Ho,rfl⟩) (λx hx=>⟨zdu hW.1 hp hx,rfl,rfl⟩) (ziO h.rng c)).2
 ·refine MF.eq (m:=upm (zak L) c none) (Xg.same ?_) (λx _=>by rw[za7];rfl);exact (zaY Xj eP h.ne3).trans ((zaY dT M1 (λe=>ho.2.1 e.symm)).trans (Kh.block gp M0))
 ·refine MF.eq vm (λx _=> ?_);unfold upm
  by_cases q:x=p
  ·rw[if_pos q,q];unfold chO;rw[hs,dj]
  ·rw[if_neg q];unfold chO;rw[zdu hW.1 hp q]
 ·intro _;rw[hs,dj];exact ZL.same (λb e=>zaY Xj (by injection e with e;rw[<-e];exact eQ) (by injection e with e;rw[<-e];exact ho.2.2))
theorem zer(h0:LFB w g F L)(hW:WF L)(hL:L.length<=1000)(hc:Rg c):
  Calls prog 114 #[.pointer (some ⟨g,0,none⟩),.int .i64 c] w λe w'=>e= .returned (.bool (zak L c).isSome)/\ChF LFB w w' g F (zaG L c):=by
 have vj:=h0;obtain⟨gp,gc,bl,cp,h,hF⟩:=h0;have c0:=h.c0;have hg:=h.blk.lt;have hl:(Instr.lookup 139 (.map (some gp)) (.int .i64 c) true).run prog w= .ok (.tuple #[.int .i64 (zjr (zak L c)),.bool (zak L c).isSome]) w:=h.par.look hc
 cases hp:zak L c with
 | none=>
  rw[hp]at hl
  have HE:Hid (ChF LFB w w g F (zaG L c)):=kA (by
   rw[zg1 hp]
   exact⟨F,vj,zg4 w F,λ_ q=>Or.inl q⟩)
  clear vj h hF hp hW;go_enter func114,ntmps114;go_wp2;go_ret;exact⟨rfl,HE⟩
 | some p=>
  rw[hp]at hl;replace hl:(Instr.lookup 139 (.map (some gp)) (.int .i64 c) true).run prog w= .ok (.tuple #[.int .i64 p,.bool true]) w:=hl;have YF:=(zlL h.rng hp).2;have hm:c∈chF L p:=(zaA hW.1).2 hp;have Ho:chF L p≠[]:=λe=>by rw[e]at hm;cases hm
  have ho:=h.off p Ho;obtain⟨w1,yO,Xg,DT⟩:=h.par.del hc;replace yO:∀ty,(Builtin.delete_ #[139,81] ty #[.map (some gp),.int .i64 c]).run prog w= .ok (.tuple #[]) w1:=yO;have k1:Blk w1 g 142 #[.map (some gp),.map (some gc)]:=h.blk.same (zaY DT hg h.ne1);have d1:MF cK w1 gc (chO L bl cp):=h.chd.same (zaY DT h.chd.lt (λe=>h.ne3 e.symm));have r1:OwnD w1 0 (.slice (some ⟨bl p,0,none⟩) (chF L p).length (cp p)) (chF L p).length (chF L p):=(h.row p Ho).same (λb e=>zaY DT (by injection e with e;rw[<-e];exact ((h.row p Ho).lt _ rfl).2) (by injection e with e;rw[<-e];exact ho.2.1));have CJ:(Instr.lookup 140 (.map (some gc)) (.int .i64 p) false).run prog w1= .ok (.slice (some ⟨bl p,0,none⟩) (chF L p).length (cp p)) w1:=by
   have:=d1.get YF;unfold chO at this;rw[if_neg Ho]at this;exact this
  have c11:w1.cell? ⟨g,1,none⟩=some (.map (some gc)):=k1.cell 1;have bq:=k1.lt;have dj:=zen L p;have hlt:=zq1 (zb5 hW.1 p) hm
  have dw:Hid (Calls prog 182 #[.slice (some ⟨bl p,0,none⟩) (chF L p).length (cp p),.int .i64 c] w1 λe w2=>e= .returned (.tuple #[.int .i64 (zhB (chF L p) c:Nat),.bool true])/\Bw w1 w2):=kA (by
   obtain⟨a,cap,e,hr⟩:=r1.row;injection e with e1 _ e3;subst e1 e3;have:=zeq (cap:=cp p) hr om (zyF (zb5 hW.1 p)) c
   rwa [decide_eq_true hm]at this)
  have Z8:Hid (∀w2,Bw w1 w2->Calls prog 183 #[.slice (some ⟨bl p,0,none⟩) (chF L p).length (cp p),.int .i64 (zhB (chF L p) c:Nat),.int .i64 ((zhB (chF L p) c:Nat)+1)] w2 λe w3=>e= .returned (.slice (some ⟨bl p,0,none⟩) ((chF L p).length - 1) (cp p))/\w3.cell? ⟨g,1,none⟩=some (.map (some gc))/\g<w3.heap.size/\
    ∃w4,(if (chF L p).length - 1=0 then (∀ty,(Builtin.delete_ #[140,81] ty #[.map (some gc),.int .i64 p]).run prog w3= .ok (.tuple #[]) w4) else (Instr.mapUpdate 140 (.map (some gc)) (.int .i64 p) (.slice (some ⟨bl p,0,none⟩) ((chF L p).length - 1) (cp p))).run prog w3= .ok () w4)/\ChF LFB w w4 g F (zaG L c)):=kA (λw2 Kh=>by
   refine (ztz (r1.keep Kh) hlt).mono ?_;rintro e w3 ⟨rfl,r3,dT⟩;have k3:Blk w3 g 142 #[.map (some gp),.map (some gc)]:=(k1.keep Kh).same (zaY dT (k1.keep Kh).lt (λe=>ho.1 e.symm));have d3:MF cK w3 gc (chO L bl cp):=(d1.keep Kh).same (zaY dT (d1.keep Kh).lt (λe=>ho.2.2 e.symm));refine⟨rfl,k3.cell 1,k3.lt,?_⟩;have hcut:=zm9 (zb5 hW.1 p) hm
   by_cases z:(chF L p).length - 1=0
   ·obtain⟨w4,vk,vm,Xj⟩:=d3.del YF;refine⟨w4,by rw[if_pos z];exact vk,h.cutEnd hF hW hp Xg DT Kh r3 dT ?_ Xj⟩;rw[if_pos (eq_nil_of_length_eq_zero om)];exact vm
   ·obtain⟨w4,vk,vm,Xj⟩:=d3.put YF (bl p,(chF L p).length - 1,cp p) (L.map Prod.snd) (λy hy=>by
     unfold upm at hy;have vn:chF L y≠[]:=by
      by_cases q:y=p
      ·rw[q];exact Ho
      ·rw[if_neg q]at hy;unfold chO at hy;intro e;rw[if_pos e]at hy
       cases hy
     obtain⟨z,hz⟩:=exists_mem_of_ne_nil _ vn
     exact mem_map.2 ⟨_,zbo ((zaA hW.1).1 hz),rfl⟩) (by rw[length_map];omega)
    refine⟨w4,by rw[if_neg z];exact vk,h.cutEnd hF hW hp Xg DT Kh r3 dT ?_ Xj⟩;rw[if_neg (λe=>z (by rw[<-hcut,e];rfl))]
    exact vm)
  obtain⟨n,hn⟩:∃n,n=(chF L p).length:=⟨_,rfl⟩;obtain⟨i,hi⟩:∃i,i=zhB (chF L p) c:=⟨_,rfl⟩;obtain⟨L',Cy⟩:∃L',L'=zaG L c:=⟨_,rfl⟩;obtain⟨b,hb⟩:∃b,b=bl p:=⟨_,rfl⟩;obtain⟨cc,KU⟩:∃cc,cc=cp p:=⟨_,rfl⟩;rw[<-hn,<-hb,<-KU]at CJ dw Z8;rw[<-hi]at dw Z8 hlt;rw[<-hn]at hlt dj;rw[<-Cy]at Z8 ⊢;clear vj h hF hp hW hm Ho ho Xg DT k1 d1 r1 hn hi Cy hb KU YF hc;go_enter func114,ntmps114;go_wp2_with (at_builtin;refine za9 rfl (.tmp 24) (.tmp 25) 139 81 rfl _ _ rfl rfl (yO _) ?_);refine dw.mono ?_;rintro e w2 ⟨rfl,b2⟩;have HD:=kA (Z8 w2 b2);clear b2 dw Z8;have hw:IntKind.i64.wrap ((i:Int)+1)=(i:Int)+1:=by rw[IntKind.wrap_i64];omega
  go_wp2_with fail;refine HD.mono ?_;rintro e w3 ⟨rfl,c13,dT,w4,Hi,Hg⟩;have Hw:=kA Hg;clear Hg HD
  by_cases z:n - 1=0
  ·rw[if_pos z]at Hi;rw[z];go_wp2_with (at_builtin;refine za9 rfl (.tmp 49) (.tmp 50) 140 81 rfl _ _ rfl rfl (Hi _) ?_);go_ret;exact⟨rfl,Hw⟩
  ·rw[if_neg z]at Hi;obtain⟨m,hm⟩:∃m,m=n - 1:=⟨_,rfl⟩;rw[<-hm]at z Hi ⊢;have z1:¬((m:Int)=0):=om;clear hm;go_wp2;go_ret;exact⟨rfl,Hw⟩
theorem LF.hangEnd(h:LF w g L gp gc bl cp)(hF:∀b,F b↔zfN L g gp gc bl b)(hW:WF L)(hL:L.length<=1000)(DN:zak L c=none)(hc:Rg c)(hp:Rg p)(kj:Bw w w1){b cap:Nat}
  (DU:OwnD w2 0 (.slice (some ⟨b,0,none⟩) ((chF L p).length+1) cap) ((chF L p).length+1) (zvj (chF L p) c))(Km:w1.grownBy w2 (cV (chO L bl cp p)).ownBlock)(hb:(cV (chO L bl cp p)).ownBlock=some b∨w.heap.size<=b):
  ∃w3 w4,(Instr.mapUpdate 140 (.map (some gc)) (.int .i64 p) (.slice (some ⟨b,0,none⟩) ((chF L p).length+1) cap)).run prog w2= .ok () w3/\(Instr.mapUpdate 139 (.map (some gp)) (.int .i64 c) (.int .i64 p)).run prog w3= .ok () w4/\ChF LFB w w4 g F (setF L c p)/\w2.cell? ⟨g,1,none⟩=some (.map (some gc))/\w3.cell? ⟨g,0,none⟩=some (.map (some gp))/\w3.cell? ⟨g,1,none⟩=some (.map (some gc))/\g<w2.heap.size/\g<w3.heap.size:=by
 have h1:=h.keep kj;have hs:=zlI (p:=p) hW.1 DN;have Ey:∀x,x≠p->chF (setF L c p) x=chF L x:=λx hx=>zj4 hW.1 DN hx;have Hc:∀k,(cV (chO L bl cp p)).ownBlock=some k->chF L p≠[]/\k=bl p:=λk e=>by
  unfold chO at e
  by_cases q:chF L p=[]
  ·rw[if_pos q]at e;cases e
  ·rw[if_neg q]at e;injection e with e;exact⟨q,e.symm⟩
 have hst:∀k,k<w1.heap.size->(chF L p≠[]->k≠bl p)->w2.heap[k]? =w1.heap[k]? :=λk hk Ho=>Km.block k hk (λe=>by
  obtain⟨q1,q2⟩:=Hc k e.symm
  exact Ho q1 q2)
 have k2:Blk w2 g 142 #[.map (some gp),.map (some gc)]:=h1.blk.same (hst g h1.blk.lt (λq e=>(h.off p q).1 e.symm));have d2:MF cK w2 gc (chO L bl cp):=h1.chd.same (hst gc h1.chd.lt (λq e=>(h.off p q).2.2 e.symm));have m2:MF pK w2 gp (zak L):=h1.par.same (hst gp h1.par.lt (λq e=>(h.off p q).2.1 e.symm));have J5:∀y,chF L y≠[]->y∈L.map Prod.snd:=λy hy=>by
  obtain⟨z,hz⟩:=exists_mem_of_ne_nil _ hy;exact mem_map.2 ⟨_,zbo ((zaA hW.1).1 hz),rfl⟩
 obtain⟨w3,ZL,d3,dT⟩:=d2.put hp (b,(chF L p).length+1,cap) (p::L.map Prod.snd) (λy hy=>by
  unfold upm at hy
  by_cases q:y=p
  ·rw[q];exact mem_cons_self
  ·rw[if_neg q]at hy;refine mem_cons_of_mem _ (J5 y (λe=> ?_));unfold chO at hy;rw[if_pos e]at hy
   cases hy) (by rw[length_cons,length_map];omega)
 have m3:MF pK w3 gp (zak L):=m2.same (zaY dT m2.lt h.ne3);have k3:Blk w3 g 142 #[.map (some gp),.map (some gc)]:=k2.same (zaY dT k2.lt h.ne2)
 obtain⟨w4,vo,m4,Xj⟩:=m3.put hc p (c::L.map Prod.fst) (λy hy=>by
  unfold upm at hy
  by_cases q:y=c
  ·rw[q];exact mem_cons_self
  ·rw[if_neg q]at hy;obtain⟨z,hz⟩:=Option.isSome_iff_exists.1 hy
   exact mem_cons_of_mem _ (mem_map.2 ⟨_,zbo hz,rfl⟩)) (by rw[length_cons,length_map];omega)
 have Hq:b≠g/\b≠gp/\b≠gc:=by
  rcases hb with q | q
  ·obtain⟨q1,q2⟩:=Hc b q;rw[q2];exact h.off p q1
  ·have:=h.blk.lt;have:=h.par.lt;have:=h.chd.lt;exact⟨om,om,om⟩
 refine⟨w3,w4,ZL,vo,?_,k2.cell 1,k3.cell 0,k3.cell 1,k2.lt,k3.lt⟩;refine (h.step (L':=setF L c p) (bl':=λx=>if x=p then b else bl x) (cp':=λx=>if x=p then cap else cp x) (p:=p) hF (zcS (zcS (zcS (znb (zg4 w _) kj) Km (λk e=>Or.inl (.inr (.inr (Hc k e))))) dT (λk e=>Or.inl (.inr (.inl (by injection e with e;exact e.symm))))) Xj (λk e=>Or.inl (.inl (by injection e with e;exact e.symm)))) ?_ ?_ ?_ ?_ (λx hx=>⟨Ey x hx,if_neg hx,if_neg hx⟩) (zwS h.rng hc hp)).2
 ·exact MF.eq m4 (λx _=>by rw[zbX];rfl)
 ·refine MF.eq (d3.same (zaY Xj d3.lt (λe=>h.ne3 e.symm))) (λx _=> ?_);unfold upm chO
  by_cases q:x=p
  ·subst q;rw[hs,ziN,if_neg (λe=>by have:=ziN (chF L x) c;rw[e]at this;simp at this),if_pos rfl];simp
  ·simp[Ey x q,q]
 ·intro _;rw[hs,ziN,if_pos rfl,if_pos rfl];have KO:b<w3.heap.size:=Nat.lt_of_lt_of_le (DU.lt _ rfl).2 dT.size
  exact DU.same (λk e=>by
   injection e with e;have e:b=k:=e;subst e
   exact (zaY Xj KO Hq.2.1).trans (zaY dT (DU.lt _ rfl).2 Hq.2.2))
 ·intro _;rw[if_pos rfl];rcases hb with q | q
  ·exact .inl (Hc b q)
  ·exact .inr q
theorem zra(h0:LFB w g F L)(hW:WF L)(hL:L.length<=1000)(hc:Rg c)(hp:Rg p)(DN:zak L c=none):
  Calls prog 115 #[.pointer (some ⟨g,0,none⟩),.int .i64 c,.int .i64 p] w λe w'=>e= .returned (.tuple #[])/\ChF LFB w w' g F (setF L c p):=by
 obtain⟨gp,gc,bl,cp,h,hF⟩:=h0;have dj:=zen L p;have hle:=zq0 (chF L p) c;have d9:Hid (∀u,Bw w u->u.cell? ⟨g,1,none⟩=some (.map (some gc))/\g<u.heap.size):=kA (λu q=>⟨(h.keep q).c1,(h.keep q).blk.lt⟩);have hl:(Instr.lookup 140 (.map (some gc)) (.int .i64 p) false).run prog w= .ok (cV (chO L bl cp p)) w:=h.chd.get hp
 have dw:Hid (Calls prog 182 #[cV (chO L bl cp p),.int .i64 c] w λe w2=>∃fb,e= .returned (.tuple #[.int .i64 (zhB (chF L p) c:Nat),.bool fb])/\Bw w w2):=kA (by
  obtain⟨a,cap,e,hr⟩:=h.rowOf p;rw[e]
  exact (zeq (cap:=cap) hr om (zyF (zb5 hW.1 p)) c).mono λ_ _ q=>⟨_,q⟩)
 have D9:Hid (∀u,Bw w u->Calls prog 184 #[cV (chO L bl cp p),.int .i64 (zhB (chF L p) c:Nat),.slice (some ⟨u.heap.size,0,none⟩) 1 1] (u.alloc (.cells #[.int .i64 c] 81)) λe w2=>∃b cap,e= .returned (.slice (some ⟨b,0,none⟩) ((chF L p).length+1) cap)/\∃w3 w4,(Instr.mapUpdate 140 (.map (some gc)) (.int .i64 p) (.slice (some ⟨b,0,none⟩) ((chF L p).length+1) cap)).run prog w2= .ok () w3/\(Instr.mapUpdate 139 (.map (some gp)) (.int .i64 c) (.int .i64 p)).run prog w3= .ok () w4/\ChF LFB w w4 g F (setF L c p)/\w2.cell? ⟨g,1,none⟩=some (.map (some gc))/\w3.cell? ⟨g,0,none⟩=some (.map (some gp))/\w3.cell? ⟨g,1,none⟩=some (.map (some gc))/\g<w2.heap.size/\g<w3.heap.size):=kA (λu q=>by
  have Hf:Bw u (u.alloc (.cells #[.int .i64 c] 81)):=zaa _ _;have kj:Bw w (u.alloc (.cells #[.int .i64 c] 81)):=zad q Hf;have hf:=(h.keep kj).fam p;have br:=(h.keep q).fam p;refine (ztB (i:=zhB (chF L p) c) hf (zero_le _) (Blk.new u _ _) (λe=>by have:=(br.lt _ e).2;omega) hle om).mono ?_;rintro e w2 ⟨b,cap,rfl,r2,g2,hb⟩
  refine⟨b,cap,rfl,h.hangEnd hF hW hL DN hc hp kj r2 g2 (hb.imp_right (λk=>Nat.le_trans kj.size k))⟩)
 obtain⟨a0,cap0,hv,X4⟩:=h.rowOf p;obtain⟨n,hn⟩:∃n,n=(chF L p).length:=⟨_,rfl⟩;obtain⟨i,hi⟩:∃i,i=zhB (chF L p) c:=⟨_,rfl⟩;obtain⟨L',Cy⟩:∃L',L'=setF L c p:=⟨_,rfl⟩;rw[hv]at hl dw D9;rw[<-hn]at hl dw D9;rw[<-hi]at dw D9;rw[<-Cy]at D9 ⊢;obtain⟨c1,hg⟩:=d9.out w (Below.refl _ _);clear h hF hW DN hv X4 hn hi Cy dj hle hc hp;go_enter func115,ntmps115;go_wp2_with fail;refine dw.mono ?_;rintro e w1 ⟨fb,rfl,b1⟩;have HB:=kA b1;obtain⟨c11,DT⟩:=d9.out w1 b1;clear b1 c1 hg hl dw;go_wp2
 go_region_held3 (λw'=>w'.cell? ⟨g,1,none⟩=some (.map (some gc))) (first | exact c11 | go_keep)
  (first | (go_at_call 184;refine (D9 _ (zad HB (za5 (Below.refl _ _)))).mono ?_;rintro e w2 ⟨b,cap,rfl,w3,w4,ZL,vo,Hg,c2,c3,c4,z2,z3⟩;have Hw:=kA Hg;clear Hg))
 go_wp2;go_end0;exact⟨rfl,Hw⟩
end
section
variable {w:World} {g:Nat} {L:FT} {F:Nat->Prop}
theorem znd(h:LFB w g F L)(hW:WF L)(hL:L.length<=1000){c p:Int}(hc:Rg c)(hp:Rg p):
  Calls prog 63 #[.pointer (some ⟨g,0,none⟩),.int .i64 c,.int .i64 p] w λe w'=>e= .returned (.int .i64 (zbq L c p))/\ChF LFB w w' g F (zbD L c p):=by
 have Hu:Hid (∀u,Bw w u->ChF LFB w u g F L):=kA (λu q=>⟨F,h.keep q,⟨q.os,q.tape,q.output,q.size,λb hl _=>q.block b hl⟩,λ_ k=>Or.inl k⟩)
 by_cases DN:c=p
 ·have HE:Hid (zbq L c p=8/\zbD L c p=L):=kA (by
   have e:zbq L c p=8:=by unfold zbq;rw[if_pos (.inr DN)]
   exact⟨e,by unfold zbD;rw[e,if_neg om]⟩)
  rw[HE.1,HE.2];subst DN;clear h hW hc hp;go_enter func63,ntmps63;go_wp2;go_ret;exact⟨rfl,Hu _ (Below.refl _ _)⟩
 ·have bu:(c==p)=false:=by simpa using DN
  have HI:Hid (Calls prog 113 #[.pointer (some ⟨g,0,none⟩),.int .i64 c,.int .i64 p] w λe w'=>e= .returned (.bool (decide (c∈abv L p)))/\Bw w w'):=kA (by
   obtain⟨gp,gc,bl,cp,h1,_⟩:=h
   exact zj8 h1 hW hc hp)
  by_cases hab:c∈abv L p
  ·have HE:Hid (zbq L c p=8/\zbD L c p=L):=kA (by
    have e:zbq L c p=8:=by unfold zbq;rw[if_pos (.inl hab)]
    exact⟨e,by unfold zbD;rw[e,if_neg om]⟩)
   rw[HE.1,HE.2];rw[decide_eq_true hab]at HI;clear h hW hc hp hab;go_enter func63,ntmps63;go_wp2_with fail;refine HI.mono ?_;rintro e w1 ⟨rfl,b1⟩;have HS:=kA (Hu _ b1);clear b1 HI Hu;go_wp2;go_ret;exact⟨rfl,HS⟩
  ·have HE:Hid (zbq L c p=0/\zbD L c p=setF L c p):=kA (by
    have e:zbq L c p=0:=by unfold zbq;rw[if_neg (λk=>k.elim hab DN)]
    exact⟨e,by unfold zbD;rw[e,if_pos rfl]⟩)
   rw[HE.1,HE.2];rw[decide_eq_false hab]at HI
   have Cd:Hid (∀u,Bw w u->Calls prog 114 #[.pointer (some ⟨g,0,none⟩),.int .i64 c] u λe w2=>∃fb,e= .returned (.bool fb)/\Calls prog 115 #[.pointer (some ⟨g,0,none⟩),.int .i64 c,.int .i64 p] w2 λe w3=>e= .returned (.tuple #[])/\ChF LFB w w3 g F (setF L c p)):=kA (λu q=>by
    refine (zer (h.keep q) hW hL hc).mono ?_;rintro e w2 ⟨rfl,F1,k1,k2,k3⟩;refine⟨_,rfl,(zra k1 (hW.free c) (Nat.le_trans (zeP L c) hL) hc hp (by rw[za7,if_pos rfl])).mono ?_⟩;rintro e w3 ⟨rfl,k4⟩;refine⟨rfl,?_⟩;have e1:setF (zaG L c) c p=setF L c p:=by unfold setF;rw[zoA]
    rw[e1]at k4
    exact (ChF.join k2 k3 k4).of q)
   clear h hW hc hp hab Hu;go_enter func63,ntmps63;go_wp2_with fail;refine HI.mono ?_;rintro e w1 ⟨rfl,b1⟩;have HL:=kA (Cd _ b1);clear b1 HI Cd;go_wp2_with fail;refine HL.mono ?_;rintro e w2 ⟨fb,rfl,hh⟩;have HH:=kA hh;clear hh HL;go_wp2_with fail;refine HH.mono ?_;rintro e w3 ⟨rfl,Hg⟩;have HC:=kA Hg;clear Hg HH;go_wp2;go_ret;exact⟨rfl,HC⟩
theorem zj9(h:LFB w g F L)(hW:WF L)(hL:L.length<=1000){a:Option Addr}{n cap:Nat}{xs:List Int}(hn:n<=1000)(hr:Row w a n xs)(ha:Aw F a n)(hx:Rgs xs):
  Calls prog 95 #[.pointer (some ⟨g,0,none⟩),.slice a n cap] w λe w'=>e= .returned (.int .i64 (frN L xs:Nat))/\ChF LFB w w' g F (zay L xs):=by
 have Hu:Hid (ChF LFB w w g F (zay L (xs.take 0))):=kA ⟨F,h,zg4 w F,λ_ k=>Or.inl k⟩;have hJ:Hid (∀u,Fr w u F->Row u a n xs):=kA (λu q=>zbI hr ha q);have Kb:=kA hr.1
 have Cd:Hid (∀ (u:World) (j:Nat) (z:Int),xs[j]? =some z->ChF LFB w u g F (zay L (xs.take j))->Calls prog 114 #[.pointer (some ⟨g,0,none⟩),.int .i64 z] u λe w2=>e= .returned (.bool (zak (zay L (xs.take j)) z).isSome)/\ChF LFB w w2 g F (zay L (xs.take (j+1)))):=kA (λu j z hz q=>by
  obtain⟨F1,k1,k2,k3⟩:=q;refine (zer k1 (WF.frees _ hW) (Nat.le_trans (zdM _ _) hL) (hx z (mem_of_getElem? hz))).mono ?_;rintro e w2 ⟨rfl,k4⟩;refine⟨rfl,?_⟩;rw[zou hz]
  exact ChF.join k2 k3 k4)
 clear h hW hr ha hx;go_enter func95,ntmps95;go_wp2
 go_loopw [5,7,12] (λv5 _ i wr=>∃j:Nat,j<=n/\i= .int .i64 j/\v5= .int .i64 (frN L (xs.take j):Nat)/\ChF LFB w wr g F (zay L (xs.take j))) (λ_ _ i _=>n - (ivl i).toNat)
 case atStart=>exact⟨0,om,rfl,rfl,Hu⟩
 case round=>
  clear Hu;obtain⟨j,hj,rfl,rfl,Hg⟩:=hrel;have Hw:=kA Hg
  have HR:Hid (Row wr a n xs):=kA (by
   obtain⟨_,_,q,_⟩:=Hg
   exact hJ wr q)
  have jL:=zve (xs.take j) L;rw[length_take]at jL;obtain⟨cn,X8⟩:∃cn,cn=frN L (xs.take j):=⟨_,rfl⟩;rw[<-X8]at jL ⊢;have Dk:=kA X8;clear Hg X8
  by_cases hlt:j<n
  ·obtain⟨b,off,z,rfl,hz,cz⟩:=zch HR hlt;have Ht:=World.block_lt_of_cell? _ _ cz;have dK:=kA (zm1 (L:=L) hz);rw[<-Dk.out]at dK;have HF:=kA (Cd wr j z hz Hw);have j0:(0:Int)<=(j:Int):=om;have j1:(j:Int)<(n:Int):=om;obtain⟨hb,Xk⟩:∃hb,hb=(zak (zay L (xs.take j)) z).isSome:=⟨_,rfl⟩;rw[<-Xk]at HF dK;clear hz Xk;go_wp2_with fail;refine HF.mono ?_;rintro e w2 ⟨rfl,Hg⟩;have Kp:=kA Hg;clear Hg HF
   cases hb with
   | false=>
    go_wp2;go_roundw
    case rel=>exact⟨j+1,om,by go_num,by rw[dK.out];rfl,Kp⟩
    case measure=>simp[ivl] <;> omega
   | true=>
    go_wp2;go_roundw
    case rel=>exact⟨j+1,om,by go_num,by rw[dK.out];go_num,Kp⟩
    case measure=>simp[ivl] <;> omega
  ·obtain rfl:j=n:=om;have e0:xs.take j=xs:=take_of_length_le (by rw[Kb.out];exact Nat.le_refl _);rw[e0]at Hw Dk;have j1:¬(j:Int)<(j:Int):=om;clear e0;go_wp2;go_ret;exact⟨by rw[Dk.out];rfl,Hw⟩
def dpm(L:FT)(C:List Int)(j:Nat)(z:Int):Option Int:=if z∈C.take j then none else zak L z
theorem ztD{C:List Int}{j:Nat}(h:C[j]? =some y)(z:Int):dpm L C (j+1) z=upm (dpm L C j) y none z:=by
 unfold dpm upm;rw[take_add_one,h]
 by_cases q:z=y
 ·rw[if_pos q,if_pos (by rw[q];simp)]
 ·rw[if_neg q];show _=if z∈C.take j then none else zak L z
  by_cases k:z∈C.take j
  ·rw[if_pos k,if_pos (mem_append_left _ k)]
  ·rw[if_neg k,if_neg (λm=>(mem_append.1 m).elim k (λm=>q (by simpa using m)))]
theorem zrb(h:LFB w g F L)(hW:WF L)(hL:L.length<=1000){x:Int}(hx:Rg x):
  Calls prog 66 #[.pointer (some ⟨g,0,none⟩),.int .i64 x] w λe w'=>∃v,e= .returned v/\LDr F w w' (chF L x) v/\ChF LFB w w' g F (zcK L x):=by
 have Cd:=kA (zer h hW hL hx);have HW:=kA hW;obtain⟨C,hC⟩:∃C,C=chF L x:=⟨_,rfl⟩;obtain⟨L2,vp⟩:∃L2,L2=zcK L x:=⟨_,rfl⟩;rw[<-hC,<-vp];have S6:=kA hC;have yU:=kA vp;clear h hW hC vp;go_enter func66,ntmps66;go_wp2_with fail;refine Cd.mono ?_;rintro e w1 ⟨rfl,F1,⟨gp,gc,bl,cp,h1,Cc⟩,Z9,xz⟩;clear Cd;have c1:=h1.c1;have hg:=h1.blk.lt;have Dy:=zj5 HW x;obtain⟨a,cap,hv,hr⟩:=h1.rowOf x;have hl:(Instr.lookup 140 (.map (some gc)) (.int .i64 x) false).run prog w1= .ok (cV (chO (zaG L x) bl cp x)) w1:=h1.chd.get hx;obtain⟨w2,KE,Ct,Km⟩:=h1.chd.del hx;replace KE:∀ty,(Builtin.delete_ #[140,81] ty #[.map (some gc),.int .i64 x]).run prog w1= .ok (.tuple #[]) w2:=KE;have X9:chF (zaG L x) x≠[]->a=some ⟨bl x,0,none⟩:=λq=>by
  unfold chO at hv;rw[if_neg q]at hv;injection hv with e _ _;exact e.symm
 rw[Dy]at hv hr X9
 have hJ:Hid (∀u,w2.grownBy u (some gp)->Row u a (chF L x).length (chF L x)):=kA (λu q=>by
  by_cases e:chF L x=[]
  ·refine⟨rfl,by rw[e];simp,.inl (by rw[e];rfl)⟩
  ·have e2:=X9 e;have Ho:chF (zaG L x) x≠[]:=by rw[Dy];exact e
   have ho:=h1.off x Ho;have hlt:=((h1.row x Ho).lt _ rfl).2;have Cw:=zaY Km hlt ho.2.2;have xA:=zaY q (Nat.lt_of_lt_of_le hlt Km.size) ho.2.1;refine⟨hr.1,hr.2.1,hr.2.2.imp id (λ⟨b,off,e3,hc⟩=>⟨b,off,e3,λi hi=> ?_⟩)⟩;rw[e2]at e3;injection e3 with e3;injection e3 with e4 e5 _;rw[<-hc i hi];simp only[World.cell?]
   rw[<-e4,xA,Cw])
 have yV:MF pK w2 gp (dpm (zaG L x) (chF L x) 0):=(h1.par.same (zaY Km h1.par.lt h1.ne3)).eq (λz _=>by unfold dpm;rw[take_zero,if_neg (by simp)]);have Dz:=kA yV
 have KV:Hid (∀ (u:World) (j:Nat) (y:Int),(chF L x)[j]? =some y->MF pK u gp (dpm (zaG L x) (chF L x) j)->∃u',(∀ty,(Builtin.delete_ #[139,81] ty #[.map (some gp),.int .i64 y]).run prog u= .ok (.tuple #[]) u')/\MF pK u' gp (dpm (zaG L x) (chF L x) (j+1))/\u.grownBy u' (some gp)):=kA (λu j y hy hm=>by
  have bw:Rg y:=zq7 (zbM HW.1 x) h1.rng (x:=x) (by rw[Dy];exact mem_of_getElem? hy);obtain⟨u',k1,k2,k3⟩:=hm.del bw
  exact⟨u',k1,k2.eq (λz _=>ztD hy z),k3⟩)
 have qb:Hid (∀u,w2.grownBy u (some gp)->u.cell? ⟨g,0,none⟩=some (.map (some gp))/\g<u.heap.size):=kA (λu q=>by
  have k2:Blk w2 g 142 #[.map (some gp),.map (some gc)]:=h1.blk.same (zaY Km hg h1.ne2);have k3:=k2.same (zaY q k2.lt h1.ne1)
  exact⟨k3.cell 0,k3.lt⟩)
 have kT:Hid (∀u,w2.grownBy u (some gp)->MF pK u gp (dpm (zaG L x) (chF L x) (chF L x).length)->LDr F w u (chF L x) (.slice a (chF L x).length cap)/\ChF LFB w u g F (zcK L x)):=kA (λu q hm=>by
  constructor
  ·refine⟨a,cap,rfl,hJ u q,?_⟩
   by_cases e:chF L x=[]
   ·exact .inl (by rw[e];rfl)
   ·refine .inr (λad e2=> ?_);rw[X9 e]at e2;injection e2 with e2;rw[<-e2];exact xz _ ((Cc _).2 (.inr (.inr (.inr ⟨x,by rw[Dy];exact e,rfl⟩))))
  ·refine ChF.join Z9 xz (h1.step (L':=zcK L x) (bl':=bl) (cp':=cp) (p:=x) Cc (zcS (zcS (zg4 w1 _) Km (λb e=>Or.inl (.inr (.inl (by injection e with e;exact e.symm))))) q (λb e=>Or.inl (.inl (by injection e with e;exact e.symm)))) ?_ ?_ (λk=>absurd (zdS HW x) k) (λk=>absurd (zdS HW x) k) (λy hy=>⟨zeR HW hy,rfl,rfl⟩) (zj6 _ h1.rng)).2
   ·refine hm.eq (λz _=> ?_);unfold zcK dpm;rw[zdf,take_length]
   ·refine MF.eq (Ct.same (zaY q Ct.lt (λe=>h1.ne3 e.symm))) (λz _=> ?_);unfold upm chO
    by_cases k:z=x
    ·rw[if_pos k,k,zdS HW x,if_pos rfl]
    ·rw[if_neg k,zeR HW k])
 rw[hv]at hl;have dj:=zen L x;obtain⟨n,hn⟩:∃n,n=C.length:=⟨_,rfl⟩;obtain⟨L1,S7⟩:∃L1,L1=zaG L x:=⟨_,rfl⟩;rw[<-S6.out]at hl hJ Dz KV kT dj;rw[<-hn]at hl hJ kT dj;rw[<-S7]at Dz KV kT;rw[<-yU.out]at kT;clear h1 Cc Z9 xz hr X9 Ct Km yV Dy S7 hn hx hv HW S6 yU;go_wp2_with (at_builtin;refine za9 rfl (.tmp 22) (.tmp 23) 140 81 rfl _ _ rfl rfl (KE _) ?_);clear hl KE c1 hg
 go_loopw [7,26] (λ_ i wr=>∃j:Nat,j<=n/\i= .int .i64 j/\MF pK wr gp (dpm L1 C j)/\w2.grownBy wr (some gp)) (λ_ i _=>n - (ivl i).toNat)
 case atStart=>exact⟨0,om,rfl,Dz.out,⟨rfl,rfl,rfl,Nat.le_refl _,λ_ _ _=>rfl⟩⟩
 case round=>
  clear Dz;obtain⟨j,hj,rfl,hm,Hj⟩:=hrel;have HM:=kA hm;have HG:=kA Hj;obtain⟨c0,hg⟩:=qb.out wr Hj;have HR:=kA (hJ wr Hj);clear hm Hj
  by_cases hlt:j<n
  ·obtain⟨b,off,y,rfl,hy,cy⟩:=zch HR hlt;have Ht:=World.block_lt_of_cell? _ _ cy;obtain⟨w3,bz,qc,dT⟩:=KV.out wr j y hy HM;have K3:=kA (And.intro qc (zap HG dT));have j0:(0:Int)<=(j:Int):=om;have j1:(j:Int)<(n:Int):=om;clear hy qc dT;go_wp2_with (at_builtin;refine za9 rfl (.tmp 33) (.tmp 34) 139 81 rfl _ _ rfl rfl (bz _) ?_);go_roundw
   case rel=>exact⟨j+1,om,by go_num,K3.1,K3.2⟩
   case measure=>simp[ivl] <;> omega
  ·obtain rfl:j=n:=om;have HE:=kA (kT wr HG (by have:=HM.out;exact this));have j1:¬(j:Int)<(j:Int):=om;go_wp2;go_ret;exact⟨_,rfl,HE⟩
theorem zka(w:World):
  Calls prog 26 #[] w λe w'=>∃g F,e= .returned (.pointer (some ⟨g,0,none⟩))/\LFB w' g F []/\(∀b,F b->w.heap.size<=b)/\Bw w w':=by
 have X3:= @run_makeMap prog
 have HE:Hid (∃F,LFB (((w.alloc (.map #[] 0)).alloc (.map #[] 0)).alloc (.cells #[.map (some w.heap.size),.map (some (w.heap.size+1))] 142)) (w.heap.size+2) F []/\(∀b,F b->w.heap.size<=b)/\Bw w (((w.alloc (.map #[] 0)).alloc (.map #[] 0)).alloc (.cells #[.map (some w.heap.size),.map (some (w.heap.size+1))] 142))):=kA (by
  have s1:(w.alloc (.map #[] 0)).heap.size=w.heap.size+1:=by simp
  have s2:((w.alloc (.map #[] 0)).alloc (.map #[] 0)).heap.size=w.heap.size+2:=by simp
  have b1:Bw w (w.alloc (.map #[] 0)):=zaa _ _;have b2:Below (w.alloc (.map #[] 0)).heap.size (w.alloc (.map #[] 0)) ((w.alloc (.map #[] 0)).alloc (.map #[] 0)):=zaa _ _;have b3:Below ((w.alloc (.map #[] 0)).alloc (.map #[] 0)).heap.size ((w.alloc (.map #[] 0)).alloc (.map #[] 0)) (((w.alloc (.map #[] 0)).alloc (.map #[] 0)).alloc (.cells #[.map (some w.heap.size),.map (some (w.heap.size+1))] 142)):=zaa _ _;have m1:=((MF.new pK w).keep b2).keep b3;have m2:=(MF.new cK (w.alloc (.map #[] 0))).keep b3;rw[s1]at m2;have k:=Blk.new ((w.alloc (.map #[] 0)).alloc (.map #[] 0)) 142 #[.map (some w.heap.size),.map (some (w.heap.size+1))];rw[s2]at k;have ya:∀x,chF [] x=[]:=λx=>rfl;refine⟨zfN [] (w.heap.size+2) w.heap.size (w.heap.size+1) (λ_=>0),⟨w.heap.size,w.heap.size+1,λ_=>0,λ_=>0,⟨k,m1,m2,λx hx=>absurd (ya x) hx,λx _ hx=>absurd (ya x) hx,om,om,om,λx hx=>absurd (ya x) hx,λp hp=>by cases hp⟩,λ_=>Iff.rfl⟩,?_,zad (zad b1 b2) b3⟩;rintro b (e | e | e | ⟨x,hx,_⟩)
  ·omega
  ·omega
  ·omega
  ·exact absurd (ya x) hx)
 go_enter func26,ntmps26;go_wp2;go_ret;obtain⟨F,h1,h2,h3⟩:=HE;exact⟨_,F,rfl,h1,h2,h3⟩
end
theorem ziQ(h:WF L)(l:List Int):(zfK L l).Nodup:=zqI h (zbP l [] List.Pairwise.nil)
theorem ztE(h:WF L)(l:List Int):(zfK L l).length<=l.length+L.length:=by
 have h1:=zwC h (ns:=zbW l) (zbP l [] List.Pairwise.nil);have h2:=(za4 l).length_eq;unfold zfK;omega
theorem ztF{U:List Int}(h:U.Nodup){i:Nat}{u:Int}(hu:U[i]? =some u):u∉U.take i:=λhm=>by
 obtain⟨j,hj,e⟩:=mem_iff_getElem.1 hm;rw[length_take]at hj;rw[getElem_take]at e;obtain⟨hi,e2⟩:=List.getElem?_eq_some_iff.1 hu;have:=List.pairwise_iff_getElem.1 h j i om hi om;exact this (e.trans e2.symm)
def zff(l:List Int):List Int:=Lib.compact (zbW l)
theorem zkb(ns:List Int):Lib.compact ns=((range ns.length).filter (λi=>decide (i=0) || decide (ns.getD i 0≠ns.getD (i - 1) 0))).map (λi=>ns.getD i 0):=by
 unfold Lib.compact Lib.compactUpTo;have hg:∀i,i<ns.length->ns.toArray[i]! =ns.getD i 0:=λi hi=>by
  rw[getElem!_pos ns.toArray i (by simpa using hi)];simp[getD,hi]
 have h1:(range ns.length).filter (Lib.keeps ns.toArray)=(range ns.length).filter (λi=>decide (i=0) || decide (ns.getD i 0≠ns.getD (i - 1) 0)):=by
  refine filter_congr (λi hi=> ?_);rw[mem_range]at hi
  by_cases q:i=0
  ·rw[Lib.keeps_lt_one _ i om,decide_eq_true q];rfl
  ·have e1:=hg i hi;have e2:=hg (i - 1) om
   by_cases k:ns.getD i 0=ns.getD (i - 1) 0
   ·rw[Lib.keeps_neg om (by rw[e1,e2];exact k),decide_eq_false q,decide_eq_false (λc=>c k)];rfl
   ·rw[Lib.keeps_pos (by rw[e1,e2];exact k),decide_eq_true k,Bool.or_true]
 rw[h1];refine map_congr_left (λi hi=> ?_);exact hg i (mem_range.1 (mem_filter.1 hi).1)
theorem zrc:z∈Lib.compact ns↔z∈ns:=by
 rw[zkb,mem_map];constructor
 ·rintro⟨i,hi,rfl⟩;exact zeO (mem_range.1 (mem_filter.1 hi).1)
 ·intro hz;obtain⟨i,hi,e⟩:=mem_iff_getElem.1 hz;obtain⟨j,hj,ej,zL⟩:=ziB (ns:=ns) i hi;refine⟨j,mem_filter.2 ⟨mem_range.2 hj,?_⟩,?_⟩
  ·rw[Bool.or_eq_true,decide_eq_true_eq,decide_eq_true_eq];exact zL
  ·rw[ej,getD,getElem?_eq_getElem hi];exact e
theorem zyG(h:ns.Pairwise (·<=·)):(Lib.compact ns).Pairwise (·<=·):=by
 rw[zkb];refine List.pairwise_map.2 ((List.Pairwise.filter _ pairwise_lt_range).imp_of_mem (fun {a b} ha hb c=> ?_));exact zgO h om (mem_range.1 (mem_filter.1 hb).1)
theorem ziR(l:List Int):(zbW l).Pairwise (·<=·):=zbP l [] List.Pairwise.nil
def zne(L:FT)(l:List Int):List Int:=(zff l).filter (λx=> !zec L (zff l) x)
theorem ztG{ms:List Int}(h:∀z,z∈ns↔z∈ms)(x:Int):zec L ns x=zec L ms x:=by
 unfold zec;congr 1;funext a;rw[decide_eq_decide];exact h a
theorem zdv(L:FT)(l:List Int):zfK L l=(zne L l).flatMap (beh L):=by
 unfold zfK zvd zne zff;rw[zly];have h1:∀x,zec L (Lib.compact (zbW l)) x=zec L (zbW l) x:=λx=>ztG (λz=>zrc) x;rw[zkb,filter_map,filter_filter,flatMap_map];congr 1;refine filter_congr (λi _=> ?_);rw[<-zkb];show _=((λx=> !zec L (Lib.compact (zbW l)) x) ((zbW l).getD i 0) && _);simp only[h1];unfold zwB zec;rw[Bool.and_comm,not_any_eq_all_not]
theorem znf(l:List Int):(zff l).length<=l.length:=by
 have h1:=Lib.compact_length_le (zbW l);have h2:=(za4 l).length_eq;unfold zff;omega
theorem zbY{l:List Int} :z∈zff l↔z∈l:=by
 unfold zff;rw[zrc,(za4 l).mem_iff]
section
variable {w:World} {g gp gc:Nat} {L:FT} {bl cp:Int->Nat}
theorem zrd(h:LF w g L gp gc bl cp)(hW:WF L){a:Option Addr}{n cap:Nat}{xs:List Int}(hn:n<=1000)(hr:Row w a n xs)(hx:Rgs xs):
  Calls prog 197 #[.pointer (some ⟨g,0,none⟩),.slice a n cap] w λe w'=>∃v,e= .returned v/\OwnD w' w.heap.size v (zne L xs).length (zne L xs)/\Bw w w':=by
 have DV:=kA (zhW (cap:=cap) hr om);have dj:=znf xs;rw[hr.1]at dj;have CK:Hid (∀u z a2 c2,Bw w u->z∈zff xs->Row u a2 (zff xs).length (zff xs)->Calls prog 181 #[.pointer (some ⟨g,0,none⟩),.int .i64 z,.slice a2 (zff xs).length c2] u λe w'=>e= .returned (.bool (zec L (zff xs) z))/\Bw u w'):=kA (λu z a2 c2 q hz DU=>znc (h.keep q) hW (hx z (zbY.1 hz)) DU om (zyG (ziR xs)));obtain⟨i0,kB,kQ,kR,kH⟩:=info_parts zcr;have HI:=kA (And.intro kB (And.intro kQ (And.intro kR kH)));have HS:Hid (Lib.compact (xs.mergeSort (λx y=>decide (x<=y)))=zff xs):=kA (by unfold zff;rw[zmW (List.Perm.refl xs)]);obtain⟨C,hC⟩:∃C,C=zff xs:=⟨_,rfl⟩;obtain⟨T,hT⟩:∃T,T=zne L xs:=⟨_,rfl⟩;have HT:Hid (T=C.filter (λx=> !zec L C x)):=kA (by rw[hT,hC];rfl);rw[<-hC]at CK HS dj;rw[<-hT];clear h hW hr hx kB kQ kR kH hC hT;go_enter func197,ntmps197;go_wp2_with fail;refine DV.mono ?_;rintro e w1 ⟨v1,rfl,o1,b1⟩;have dx:=kA (zeL o1 om);have DW:=kA o1;have Hk:=kA b1;clear o1 b1 DV;go_wp2_with fail;refine dx.mono ?_;rintro e w2 ⟨rfl,o2,g2⟩;have Xl:=kA (zq4 o2);rw[HS.out]at Xl;have dy:=kA o2;have He:=kA (zbl DW (Nat.le_refl _) Hk g2);clear o2 g2 dx DW Hk;go_wp2_with fail;refine Xl.mono ?_;rintro e w3 ⟨v3,rfl,o3,g3,-⟩;have Ky:=kA (zbl dy (Nat.le_refl _) He g3);obtain⟨a3,c3,rfl,r3⟩:=o3.row;have Dh:=kA r3;have Kr:=Ky.size;obtain⟨m,hm⟩:∃m,m=C.length:=⟨_,rfl⟩;rw[<-hm]at Dh CK dj ⊢;have HM:=kA hm;have Nt:=Dh.2.1;clear o3 g3 r3 dy He Xl HS hm;go_wp2
 go_loopw [6,8,17] (λv6 _ i wr=>∃j:Nat,j<=m/\i= .int .i64 j/\OwnD wr w3.heap.size v6 ((C.take j).filter (λx=> !zec L C x)).length ((C.take j).filter (λx=> !zec L C x))/\Bw w3 wr) (λ_ _ i _=>m - (ivl i).toNat)
 case atStart=>exact⟨0,om,rfl,OwnD.nil _ _,Below.refl _ _⟩
 case round=>
  obtain⟨j,hj,rfl,ho,hb⟩:=hrel;have Hp:=kA ho;have HB:=kA hb;have HR:=kA (zar Dh hb);have Nu:w3.heap.size<=wr.heap.size:=hb.size;clear ho hb
  by_cases hlt:j<m
  ·obtain⟨b,off,z,rfl,hz,cz⟩:=zch HR hlt;have Ht:=World.block_lt_of_cell? _ _ cz;have HH:=kA (CK wr z (some ⟨b,off,none⟩) c3 (zad Ky HB) (mem_of_getElem? hz) HR);have j0:(0:Int)<=(j:Int):=om;have j1:(j:Int)<(m:Int):=om;obtain⟨hb,Xk⟩:∃hb,hb=zec L C z:=⟨_,rfl⟩
   have Hu:Hid ((C.take (j+1)).filter (λx=> !zec L C x)=(C.take j).filter (λx=> !zec L C x)++(if hb then [] else [z])):=kA (by
    rw[take_add_one,hz,filter_append,Xk]
    cases q:zec L C z <;> simp[q])
   have zW:((C.take j).filter (λx=> !zec L C x)).length<=1000:=by
    have q1:=length_filter_le (λx=> !zec L C x) (C.take j);rw[length_take]at q1;omega
   rw[<-Xk]at HH;clear hz Xk;go_wp2_with fail;refine HH.mono ?_;rintro e w5 ⟨rfl,b5⟩;replace Hp:=kA (Hp.keep b5);replace HB:=kA (zad (w:=w3) HB b5);have vq:w3.heap.size<=w5.heap.size:=HB.size;clear b5 HH HR cz Ht
   cases hb with
   | true=>
    go_wp2;go_roundw
    case rel=>exact⟨j+1,om,by go_num,by rw[Hu.out];simpa using Hp.out,HB⟩
    case measure=>simp[ivl] <;> omega
   | false=>
    obtain⟨pre,qd⟩:∃pre,pre=(C.take j).filter (λx=> !zec L C x):=⟨_,rfl⟩;rw[<-qd]at Hp Hu zW;obtain⟨k,hk⟩:∃k,k=pre.length:=⟨_,rfl⟩;rw[<-hk]at Hp zW;have HK:=kA hk;clear qd hk;go_wp2_with (at_builtin;refine wpList_append_own _ rfl (.tmp 26) (.tmp 28) 35 rfl w3.heap.size 81 i0 (.int .i64 0) 1 8 underlying35 HI.1 HI.2.1 HI.2.2.1 HI.2.2.2 rfl (by decide) _ _ _ rfl (Hp.alloc _) ⟨w5.heap.size,0,none⟩ 1 1 [.int .i64 z] rfl rfl (cell_one_new _ _ _) (by intro u hu;simp at hu;subst hu;rfl) (by unfold maxLen;omega) om (by simp;omega) ?_);intro v' w6 kJ kK _;have Kv:=kA kJ;have dU:=kA (zbS Hp (Nat.le_refl _) HB vq kK);clear kJ kK;go_wp2;go_roundw
    case rel=>
     refine⟨j+1,om,by go_num,?_,dU⟩;rw[Hu.out];show OwnD _ _ _ (pre++[z]).length (pre++[z]);rw[length_append,<-HK.out];unfold OwnD;rw[map_append];exact Kv
    case measure=>simp[ivl] <;> omega
  ·obtain rfl:j=m:=om;have e0:C.take j=C:=take_of_length_le (by rw[HM.out];exact Nat.le_refl _);rw[e0,<-HT.out]at Hp;have HE:=kA (And.intro (Hp.base Kr) (zad Ky HB));have j1:¬(j:Int)<(j:Int):=om;clear e0;go_wp2;go_ret;exact⟨_,rfl,HE⟩
end
end Go.Proofs.YtlibdcmcbinfnaaGreat
