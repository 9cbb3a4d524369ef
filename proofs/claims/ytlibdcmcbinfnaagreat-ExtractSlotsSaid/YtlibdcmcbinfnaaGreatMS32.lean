/- Lemmas. -/
import Derived.Test.YtlibdcmcbinfnaaGreatMS31
set_option maxHeartbeats 100000000
set_option maxRecDepth 1000000
namespace Go.Proofs.YtlibdcmcbinfnaaGreat
open _root_.Go.Proofs.Tryz List Nat
open Go.RowKit
structure NXs (X:List Value) (T:TypeId):Prop where
 len:X.length=15
 size:(prog.info? T).map (·.size)=some X.length
 sizea:(prog.info? T).map (·.size)=some X.toArray.size
 onea:X.toArray.all (·.oneCell')=true
def n0d:Nd:=⟨0,0,λ_=>0,false⟩
theorem zyS(n:Nd)(p:Int):(cNd n).toArray.setIfInBounds 1 (.int .i64 p)=(cNd { n with par:=p }).toArray:=rfl
theorem zyT(n:Nd)(M:Nat->Int):zaL (cNd n) 2 (lM M)=cNd { n with pl:=M }:=rfl
structure SCx (SB:World->Nat->(Nat->Prop)->St->Prop):Prop where
 keep_:∀w w' g F S,SB w g F S->(∀b,F b->w'.heap[b]? =w.heap[b]?)->SB w' g F S
 inb:∀w g F S,SB w g F S->∀b,F b->b<w.heap.size
 new:∀ (w:World) (r:Nat),r<=256->Calls prog 25 #[.int .i64 r] w λe w'=>∃g F,e= .returned (.tuple #[.pointer (some ⟨g,0,none⟩),.int .i64 0])/\SB w' g F (St0 r)/\(∀b,F b->w.heap.size<=b)/\Bw w w'
 bad:∀ (w:World) (x:Int),(x<0∨256<x)->Calls prog 25 #[.int .i64 x] w λe w'=>e= .returned (.tuple #[.pointer none,.int .i64 1])/\Bw w w'
 spawn:∀ (w:World) g F S (P:PT),WS S->Bd S 1000->SB w g F S->Calls prog 62 #[.pointer (some ⟨g,0,none⟩),.agg (pl P).toArray] w λe w'=>e= .returned (.tuple #[.int .i64 (spV S P),.int .i64 (spE S P)])/\Chg SB w w' g F (spS S P)
 despawn:∀ (w:World) g F S (id:Int),WS S->Bd S 1000->SB w g F S->Calls prog 64 #[.pointer (some ⟨g,0,none⟩),.int .i64 id] w λe w'=>e= .returned (.int .i64 (deE S id))/\Chg SB w w' g F (deS S id)
 put:∀ (w:World) g F S (id:Int) (P:PT) (a:Option Addr) (n cap:Nat) (ks:List Int),WS S->Bd S 1000->SB w g F S->n<=1000->Row w a n ks->Aw F a n->Calls prog 93 #[.pointer (some ⟨g,0,none⟩),.int .i64 id,.agg (pl P).toArray,.slice a n cap] w λe w'=>e= .returned (.int .i64 (puE S id P ks))/\Chg SB w w' g F (puS S id P ks)
 cut:∀ (w:World) g F S (id:Int) (a:Option Addr) (n cap:Nat) (ks:List Int),WS S->Bd S 1000->SB w g F S->n<=1000->Row w a n ks->Aw F a n->Calls prog 94 #[.pointer (some ⟨g,0,none⟩),.int .i64 id,.slice a n cap] w λe w'=>e= .returned (.int .i64 (cuE S id ks))/\Chg SB w w' g F (cuS S id ks)
 touch:∀ (w:World) g F S (a:Option Addr) (n cap:Nat) (xs:List Int),WS S->Bd S 1000->SB w g F S->n<=1000->Row w a n xs->Aw F a n->Calls prog 65 #[.pointer (some ⟨g,0,none⟩),.slice a n cap] w λe w'=>e= .returned (.int .i64 (toN S xs:Nat))/\Chg SB w w' g F (toS S xs)
 get:∀ (w:World) g F S (id:Int),WS S->Bd S 1000->SB w g F S->Calls prog 213 #[.pointer (some ⟨g,0,none⟩),.int .i64 id] w λe w'=>∃Y,e= .returned (.tuple #[.agg (toArray Y),.bool (zcF S id)])/\Y=pl (zby S id)/\Bw w w'
 all:∀ (w:World) g F S,WS S->Bd S 1000->SB w g F S->Calls prog 92 #[.pointer (some ⟨g,0,none⟩)] w λe w'=>∃v,e= .returned v/\LRes w w' (alS S) v/\Bw w w'
 tick:∀ (w:World) g F S,WS S->Bd S 1000->SB w g F S->Calls prog 43 #[.pointer (some ⟨g,0,none⟩)] w λe w'=>e= .returned (.int .i64 S.now)/\Bw w w'
 next:∀ (w:World) g F S,WS S->Bd S 1000->SB w g F S->Calls prog 79 #[.pointer (some ⟨g,0,none⟩)] w λe w'=>e= .returned (.int .i64 (S.now+1))/\Chg SB w w' g F (neS S)
 changed:∀ (w:World) g F S (since:Int),WS S->Bd S 1000->SB w g F S->Calls prog 193 #[.pointer (some ⟨g,0,none⟩),.int .i64 since] w λe w'=>∃v,e= .returned v/\LRes w w' (chL S since) v/\Bw w w'
 gone:∀ (w:World) g F S (since:Int),WS S->Bd S 1000->SB w g F S->Calls prog 118 #[.pointer (some ⟨g,0,none⟩),.int .i64 since] w λe w'=>∃v,e= .returned v/\LRes w w' (goL S since) v/\Bw w w'
structure FCx (FB:World->Nat->(Nat->Prop)->FT->Prop):Prop where
 keep_:∀w w' g F L,FB w g F L->(∀b,F b->w'.heap[b]? =w.heap[b]?)->FB w' g F L
 inb:∀w g F L,FB w g F L->∀b,F b->b<w.heap.size
 rng:∀w g F L,FB w g F L->∀p∈L,Rg p.1/\Rg p.2
 new:∀w:World,Calls prog 26 #[] w λe w'=>∃g F,e= .returned (.pointer (some ⟨g,0,none⟩))/\FB w' g F []/\(∀b,F b->w.heap.size<=b)/\Bw w w'
 set:∀ (w:World) g F L (c p:Int),WF L->L.length<=1000->FB w g F L->Rg c->Rg p->Calls prog 63 #[.pointer (some ⟨g,0,none⟩),.int .i64 c,.int .i64 p] w λe w'=>e= .returned (.int .i64 (zbq L c p))/\ChF FB w w' g F (zbD L c p)
 free:∀ (w:World) g F L (a:Option Addr) (n cap:Nat) (xs:List Int),WF L->L.length<=1000->FB w g F L->n<=1000->Row w a n xs->Aw F a n->Rgs xs->Calls prog 95 #[.pointer (some ⟨g,0,none⟩),.slice a n cap] w λe w'=>e= .returned (.int .i64 (frN L xs:Nat))/\ChF FB w w' g F (zay L xs)
 drop:∀ (w:World) g F L (x:Int),WF L->L.length<=1000->FB w g F L->Rg x->Calls prog 66 #[.pointer (some ⟨g,0,none⟩),.int .i64 x] w λe w'=>∃v,e= .returned v/\LDr F w w' (chF L x) v/\ChF FB w w' g F (zcK L x)
 parent:∀ (w:World) g F L (x:Int),WF L->L.length<=1000->FB w g F L->Rg x->Calls prog 251 #[.pointer (some ⟨g,0,none⟩),.int .i64 x] w λe w'=>e= .returned (.tuple #[.int .i64 (zjr (zak L x)),.bool (zak L x).isSome])/\Bw w w'
theorem SCx.kb{SB:World->Nat->(Nat->Prop)->St->Prop}(h:SCx SB):KB SB:=⟨h.keep_,h.inb⟩
theorem FCx.kb{FB:World->Nat->(Nat->Prop)->FT->Prop}(h:FCx FB):KB FB:=⟨h.keep_,h.inb⟩
structure XC (XB:World->Nat->(Nat->Prop)->Sc->Prop):Prop where
 kb:KB XB
 new:∀ (w:World) (r:Nat),r<=256->Calls prog 7 #[.int .i64 r] w λe w'=>∃g F,e= .returned (.tuple #[.pointer (some ⟨g,0,none⟩),.int .i64 0])/\XB w' g F (Sc0 r)/\(∀b,F b->w.heap.size<=b)/\Bw w w'
 bad:∀ (w:World) (x:Int),(x<0∨256<x)->Calls prog 7 #[.int .i64 x] w λe w'=>e= .returned (.tuple #[.pointer none,.int .i64 1])/\Bw w w'
 spawn:∀ (w:World) g F X (P:PT) (p:Int),WX X->BSc X 900->XB w g F X->Rg p->Calls prog 28 #[.pointer (some ⟨g,0,none⟩),.agg (pl P).toArray,.int .i64 p] w λe w'=>e= .returned (.tuple #[.int .i64 (znj X P p),.int .i64 (zni X P p)])/\ChB XB w w' g F (zez X P p)
 despawn:∀ (w:World) g F X (id:Int),WX X->BSc X 900->XB w g F X->Rg id->Calls prog 29 #[.pointer (some ⟨g,0,none⟩),.int .i64 id] w λe w'=>e= .returned (.int .i64 (deE X.S id))/\ChB XB w w' g F (zfO X id)
 put:∀ (w:World) g F X (id:Int) (P:PT) (a:Option Addr) (n cap:Nat) (ks:List Int),WX X->BSc X 900->XB w g F X->n<=900->Row w a n ks->Aw F a n->Calls prog 47 #[.pointer (some ⟨g,0,none⟩),.int .i64 id,.agg (pl P).toArray,.slice a n cap] w λe w'=>e= .returned (.int .i64 (puE X.S id P ks))/\ChB XB w w' g F (znk X id P ks)
 cut:∀ (w:World) g F X (id:Int) (a:Option Addr) (n cap:Nat) (ks:List Int),WX X->BSc X 900->XB w g F X->n<=900->Row w a n ks->Aw F a n->Calls prog 48 #[.pointer (some ⟨g,0,none⟩),.int .i64 id,.slice a n cap] w λe w'=>e= .returned (.int .i64 (cuE X.S id ks))/\ChB XB w w' g F (zoD X id ks)
 adopt:∀ (w:World) g F X (c p:Int),WX X->BSc X 900->XB w g F X->Rg c->Rg p->Calls prog 49 #[.pointer (some ⟨g,0,none⟩),.int .i64 c,.int .i64 p] w λe w'=>e= .returned (.int .i64 (zjs X c p))/\ChB XB w w' g F (zfX X c p)
 free:∀ (w:World) g F X (c:Int),WX X->BSc X 900->XB w g F X->Rg c->Calls prog 50 #[.pointer (some ⟨g,0,none⟩),.int .i64 c] w λe w'=>e= .returned (.int .i64 (ztM X c))/\ChB XB w w' g F (zha X c)
 get:∀ (w:World) g F X (id:Int),WX X->BSc X 900->XB w g F X->Calls prog 136 #[.pointer (some ⟨g,0,none⟩),.int .i64 id] w λe w'=>∃Y,e= .returned (.tuple #[.agg (toArray Y),.bool (zcF X.S id)])/\Y=pl (zby X.S id)/\Bw w w'
 parent:∀ (w:World) g F X (id:Int),WX X->BSc X 900->XB w g F X->Rg id->Calls prog 196 #[.pointer (some ⟨g,0,none⟩),.int .i64 id] w λe w'=>e= .returned (.tuple #[.int .i64 (zjr (zak X.L id)),.bool (zak X.L id).isSome])/\Bw w w'
 all:∀ (w:World) g F X,WX X->BSc X 900->XB w g F X->Calls prog 44 #[.pointer (some ⟨g,0,none⟩)] w λe w'=>∃v,e= .returned v/\LRes w w' (alS X.S) v/\Bw w w'
 tick:∀ (w:World) g F X,WX X->BSc X 900->XB w g F X->Calls prog 16 #[.pointer (some ⟨g,0,none⟩)] w λe w'=>e= .returned (.int .i64 X.S.now)/\Bw w w'
 next:∀ (w:World) g F X,WX X->BSc X 900->XB w g F X->Calls prog 33 #[.pointer (some ⟨g,0,none⟩)] w λe w'=>e= .returned (.int .i64 (X.S.now+1))/\ChB XB w w' g F (zfY X)
 changed:∀ (w:World) g F X (since:Int),WX X->BSc X 900->XB w g F X->Calls prog 127 #[.pointer (some ⟨g,0,none⟩),.int .i64 since] w λe w'=>∃v,e= .returned v/\LRes w w' (chL X.S since) v/\Bw w w'
 gone:∀ (w:World) g F X (since:Int),WX X->BSc X 900->XB w g F X->Calls prog 68 #[.pointer (some ⟨g,0,none⟩),.int .i64 since] w λe w'=>∃v,e= .returned v/\LRes w w' (goL X.S since) v/\Bw w w'
 node:∀ (w:World) g F X (id:Int),WX X->BSc X 900->XB w g F X->Rg id->Calls prog 128 #[.pointer (some ⟨g,0,none⟩),.int .i64 id] w λe w'=>∃Y,e= .returned (.tuple #[.agg (toArray Y),.bool (zcF X.S id)])/\Y=cNd (zaS X id)/\Bw w w'
def SL(SB:World->Nat->(Nat->Prop)->St->Prop):Prop:=∀w g F S,SB w g F S->∃p,∀u,Bw w u->u.cell? ⟨g,0,none⟩=some (.pointer (some ⟨p,0,none⟩))/\g<u.heap.size/\∀x:Int,Calls prog 61 #[.pointer (some ⟨p,0,none⟩),.int .i64 x] u λe w'=>e= .returned (.bool (zai S x))/\Bw u w'
def LXB(SB:World->Nat->(Nat->Prop)->St->Prop)(FB:World->Nat->(Nat->Prop)->FT->Prop)(w:World)(g:Nat)(F:Nat->Prop)(X:Sc):Prop:=∃gs gf Fs Ff,Blk w g 100 #[.pointer (some ⟨gs,0,none⟩),.pointer (some ⟨gf,0,none⟩)]/\PR SB FB w gs gf Fs Ff (λb=>b=g) X/\∀b,F b↔b=g∨Fs b∨Ff b
def LPS(SB:World->Nat->(Nat->Prop)->St->Prop)(FB:World->Nat->(Nat->Prop)->FT->Prop)(w0 w:World)(g gs gf:Nat)(F:Nat->Prop)(X:Sc):Prop:=Blk w0 g 100 #[.pointer (some ⟨gs,0,none⟩),.pointer (some ⟨gf,0,none⟩)]/\PSt SB FB w0 w gs gf (λb=>b=g) F X
section
variable {SB:World->Nat->(Nat->Prop)->St->Prop} {FB:World->Nat->(Nat->Prop)->FT->Prop} {w0 w w':World} {g gs gf:Nat} {F:Nat->Prop} {X:Sc}
theorem zkv(kS:KB SB)(kF:KB FB):KB (LXB SB FB):=⟨λw w' g F X ⟨gs,gf,Fs,Ff,hb,h,hF⟩ he=>by
 have H9:=hb.same (he g ((hF g).2 (.inl rfl)));exact⟨gs,gf,Fs,Ff,H9,⟨kS.keep_ _ _ _ _ _ h.st (λb c=>he b ((hF b).2 (.inr (.inl c)))),kF.keep_ _ _ _ _ _ h.fo (λb c=>he b ((hF b).2 (.inr (.inr c)))),h.apart,h.hs,λb c=>by have c':b=g:=c;rw[c'];exact H9.lt⟩,hF⟩,λw g F X ⟨gs,gf,Fs,Ff,hb,h,hF⟩ b c=>by
 rcases (hF b).1 c with d | d | d
 ·rw[d];exact hb.lt
 ·exact kS.inb _ _ _ _ h.st b d
 ·exact kF.inb _ _ _ _ h.fo b d⟩
theorem LXB.open_(h:LXB SB FB w g F X):∃gs gf,LPS SB FB w w g gs gf F X:=by
 obtain⟨gs,gf,Fs,Ff,hb,h1,hF⟩:=h;exact⟨gs,gf,hb,PSt.init h1 hF⟩
theorem LPS.blk(h:LPS SB FB w0 w g gs gf F X):Blk w g 100 #[.pointer (some ⟨gs,0,none⟩),.pointer (some ⟨gf,0,none⟩)]:=by
 obtain⟨hb,Fs,Ff,h1,h2,h3,h4⟩:=h;exact hb.same (h4 g rfl).2
theorem LPS.done(h:LPS SB FB w0 w g gs gf F X):ChB (LXB SB FB) w0 w g F X:=by
 have hb:=h.blk;obtain⟨_,Fs,Ff,h1,h2,h3,h4⟩:=h;refine⟨λb=>b=g∨Fs b∨Ff b,⟨gs,gf,Fs,Ff,hb,h1,λ_=>Iff.rfl⟩,h2,λb c=> ?_⟩;rcases c with c | c
 ·rw[c];exact .inl (h4 g rfl).1
 ·exact h3 b c
theorem LPS.keep(kS:KB SB)(kF:KB FB)(h:LPS SB FB w0 w g gs gf F X)(hb:Bw w w'):LPS SB FB w0 w' g gs gf F X:=⟨h.1,h.2.keep kS kF hb⟩
theorem LPS.reads(h:LPS SB FB w0 w g gs gf F X):w.cell? ⟨g,0,none⟩=some (.pointer (some ⟨gs,0,none⟩))/\w.cell? ⟨g,1,none⟩=some (.pointer (some ⟨gf,0,none⟩))/\g<w.heap.size:=⟨h.blk.cell 0,h.blk.cell 1,h.blk.lt⟩
theorem LPS.withS(kS:KB SB)(kF:KB FB)(h:LPS SB FB w0 w g gs gf F X):∃Fs,(∀b,Fs b->b<w.heap.size)/\(∀b,Fs b->F b∨w0.heap.size<=b)/\∀w1,Bw w w1->SB w1 gs Fs X.S/\∀w' S',Chg SB w1 w' gs Fs S'->LPS SB FB w0 w' g gs gf F ⟨S',X.L⟩:=by
 obtain⟨hb,h1⟩:=h;obtain⟨Fs,a,b,c⟩:=h1.withS kS kF;exact⟨Fs,a,b,λw1 q=>⟨(c w1 q).1,λw' S' z=>⟨hb,(c w1 q).2 w' S' z⟩⟩⟩
theorem LPS.withF(kS:KB SB)(kF:KB FB)(h:LPS SB FB w0 w g gs gf F X):∃Ff,(∀b,Ff b->b<w.heap.size)/\(∀b,Ff b->F b∨w0.heap.size<=b)/\∀w1,Bw w w1->FB w1 gf Ff X.L/\∀w' L',ChF FB w1 w' gf Ff L'->LPS SB FB w0 w' g gs gf F ⟨X.S,L'⟩/\∀ (a:Option Addr) (n:Nat),(n=0∨∀ad,a=some ad->Ff ad.block∨w1.heap.size<=ad.block)->∃Fs,SB w' gs Fs X.S/\Aw Fs a n/\∀dN S',Chg SB w' dN gs Fs S'->LPS SB FB w0 dN g gs gf F ⟨S',L'⟩:=by
 obtain⟨hb,h1⟩:=h;obtain⟨Ff,a,b,c⟩:=h1.withF kS kF;refine⟨Ff,a,b,λw1 q=>⟨(c w1 q).1,λw' L' z=>⟨⟨hb,((c w1 q).2 w' L' z).1⟩,λad n hn=> ?_⟩⟩⟩;obtain⟨Fs,k1,k2,k3⟩:=((c w1 q).2 w' L' z).2 ad n hn;exact⟨Fs,k1,k2,λdN S' y=>⟨hb,k3 dN S' y⟩⟩
end
variable{w:World}{X:Sc}{S:St}{x:Int}
theorem zcC{g gs:Nat}(c0:w.cell? ⟨g,0,none⟩=some (.pointer (some ⟨gs,0,none⟩))):
  Calls prog 42 #[.pointer (some ⟨g,0,none⟩)] w λe w'=>e= .returned (.pointer (some ⟨gs,0,none⟩))/\w=w':=by
 go_enter func42,ntmps42;go_wp2;go_ret;exact⟨rfl,rfl⟩
structure A11 where
 k:Int
 one:Int
 two:Int
 P:PT
 a:Option Addr
 n:Nat
 cap:Nat
 ks:List Int
def c11(x:A11):List Value:= .int .u8 x.k:: .int .u8 x.one:: .int .u8 x.two::(pl x.P++[.slice x.a x.n x.cap])
theorem zxf(x:A11):(c11 x).length=28:=rfl
theorem zua(x:A11):(prog.info? 55).map (·.size)=some (c11 x).length:=by rw[zxf];kernel_rfl
def ok11(w:World)(x:A11):Prop:=0<=x.k/\x.k<=255/\0<=x.one/\x.one<=255/\0<=x.two/\x.two<=255/\Row w x.a x.n x.ks
def zi7(zs:List Int)(v:Int):Int:=if 250<=v∨zs.length=0 then v - 251 else zs.getD (v % zs.length).toNat 0
def p11(X:Sc)(v:Int):Int:=zi7 (alS X.S) v
def doX(X:Sc)(x:A11):Sc:=
 if x.k % 11=3 then zfO X (p11 X x.one) else if x.k % 11=4∨x.k % 11=5 then znk X (p11 X x.one) x.P x.ks else if x.k % 11=6 then zoD X (p11 X x.one) x.ks
 else if x.k % 11=7∨x.k % 11=8 then zfX X (p11 X x.one) (p11 X x.two) else if x.k % 11=9 then zha X (p11 X x.one) else if x.k % 11=10 then zfY X else zez X x.P (p11 X x.two)
def zoI(X:Sc)(x:A11):Int:=
 if x.k % 11=3 then deE X.S (p11 X x.one) else if x.k % 11=4∨x.k % 11=5 then puE X.S (p11 X x.one) x.P x.ks else if x.k % 11=6 then cuE X.S (p11 X x.one) x.ks
 else if x.k % 11=7∨x.k % 11=8 then zjs X (p11 X x.one) (p11 X x.two) else if x.k % 11=9 then ztM X (p11 X x.one) else if x.k % 11=10 then 0 else zni X x.P (p11 X x.two)
def zoJ(X:Sc)(x:A11):Int:=if x.k % 11=10 then X.S.now+1 else if x.k % 11<3 then znj X x.P (p11 X x.two) else 0
theorem BSc.does{m:Nat}(h:BSc X m)(hw:WX X)(x:A11):BSc (doX X x) (m+2):=by
 unfold doX
 split
 ·exact h.de hw _
 ·split
  ·exact h.pu _ _ _
  ·split
   ·exact h.cu _ _
   ·split
    ·exact h.ad _ _
    ·split
     ·exact h.fr _
     ·split
      ·exact h.ne
      ·exact h.sp _ _
theorem ToldX.does{I:Int->PT->Prop}{Io:Int->Option Int}{since:Int}(h:ToldX I Io since X)(x:A11):ToldX I Io since (doX X x):=by
 unfold doX
 split
 ·exact h.de _
 ·split
  ·exact h.pu _ _ _
  ·split
   ·exact h.cu _ _
   ·split
    ·exact h.ad _ _
    ·split
     ·exact h.fr _
     ·split
      ·exact h.ne
      ·exact h.sp _ _
theorem zvw(h:WX X){v:Int}(h0:0<=v)(h1:v<=255):Rg (p11 X v):=by
 unfold p11 zi7
 split
 ·unfold Rg;omega
 ·rename_i c
  have hl:(alS X.S).length≠0:=λe=>c (.inr e);have hi:(v % ((alS X.S).length:Int)).toNat<(alS X.S).length:=by
   have h1:=Int.emod_nonneg v (show ((alS X.S).length:Int)≠0 by omega);have h2:=Int.emod_lt_of_pos v (show (0:Int)<((alS X.S).length:Int) by omega);omega
  have hm:(alS X.S).getD (v % ((alS X.S).length:Int)).toNat 0∈alS X.S:=zeO hi;have h2:=zaU.1 ((zcs h.ws).1 hm);unfold Rg;omega
theorem zh9(a:Option Addr)(n cap:Nat)(zs:List Int)(v:Int)(w:World)(h0:0<=v)(h1:v<=255)(hn:n<=1000)(row:Row w a n zs):
  Calls prog 46 #[.slice a n cap,.int .u8 v] w λe w'=>e= .returned (.int .i64 (zi7 zs v))/\w=w':=by
 have hl:zs.length=n:=row.1
 by_cases h2:250<=v
 ·have e:Hid (zi7 zs v=v - 251):=kA (by unfold zi7;rw[if_pos (.inl h2)]);have hw:IntKind.i64.wrap (v - 251)=v - 251:=IntWalk.i64_in _ om;rw[e.out];clear row hl;go_enter func46,ntmps46;go_wp2;go_ret;exact⟨rfl,rfl⟩
 ·by_cases C4:n=0
  ·have e:Hid (zi7 zs v=v - 251):=kA (by unfold zi7;rw[if_pos (.inr (by rw[hl,C4]))]);have hw:IntKind.i64.wrap (v - 251)=v - 251:=IntWalk.i64_in _ om;rw[e.out];subst C4;clear row hl;go_enter func46,ntmps46;go_wp2;go_ret;exact⟨rfl,rfl⟩
  ·obtain⟨t1,t2⟩:v.tmod (n:Int)=((v % (n:Int)).toNat:Int)/\(v % (n:Int)).toNat<n:=by
    have h3:=Int.emod_nonneg v (show (n:Int)≠0 by omega);have h4:=Int.emod_lt_of_pos v (show (0:Int)<(n:Int) by omega);rw[Int.tmod_eq_emod_of_nonneg h0];omega
   obtain⟨r,hr⟩:∃r,r=(v % (n:Int)).toNat:=⟨_,rfl⟩;rw[<-hr]at t1 t2;obtain⟨b,off,y,rfl,hy,cy⟩:=zch row t2
   have e:Hid (zi7 zs v=y):=kA (by
    unfold zi7;rw[if_neg (λc=>c.elim h2 (λc=>C4 (by rw[<-hl];exact c))),hl,<-hr]
    simp[getD,hy])
   rw[e.out];have hb:=World.block_lt_of_cell? _ _ cy;have n0:¬(n:Int)=0:=om;have n1:((n:Int)==0)=false:=by simpa using C4
   have r0:(0:Int)<=(r:Int):=om;have r1:(r:Int)<(n:Int):=om;clear hr hy hl row;go_enter func46,ntmps46;go_wp2;go_ret;exact⟨rfl,rfl⟩
theorem ok11.keep{w':World}{x:A11}(h:ok11 w x)(hb:Bw w w'):ok11 w' x:=⟨h.1,h.2.1,h.2.2.1,h.2.2.2.1,h.2.2.2.2.1,h.2.2.2.2.2.1,zar h.2.2.2.2.2.2 hb⟩
def GoU(S:St):Prop:=GoN S/\(S.go.map Prod.fst).Nodup/\∀q∈S.go,Rg q.1
theorem GoU.same{S':St}(h:GoU S)(hg:GoN S')(ho:S'.go=S.go):GoU S':=⟨hg,ho ▸ h.2.1,ho ▸ h.2.2⟩
theorem GoU.zero(r:Nat):GoU (St0 r):=⟨GoN.zero r,nodup_nil,λq hq=>by cases hq⟩
theorem zhi:∀ (l:List Int) (S:St),(toS S l).go=S.go
 | [],_=>rfl
 | x::l,S=>(zhi l (to1 S x)).trans (by unfold to1;split <;> rfl)
theorem GoU.de(hW:WS S)(h:GoU S)(id:Int):GoU (deS S id):=by
 refine⟨h.1.de hW id,?_⟩;unfold deS
 cases c:atS S id with
 | none=>exact h.2
 | some i=>
  have hl:zai S id=true:=by
   rw[zdV hW];unfold zcF;rw[c];rfl
  have h2:=zaU.1 hl;show ((S.go++[(id,S.now)]).map Prod.fst).Nodup/\∀q∈S.go++[(id,S.now)],Rg q.1
  refine⟨?_,λq hq=>(mem_append.1 hq).elim (h.2.2 q) (λm=>by
   have e:q=(id,S.now):=by simpa using m
   rw[e]
   exact zdk hl)⟩
  rw[map_append];refine nodup_append.2 ⟨h.2.1,nodup_cons.2 ⟨not_mem_nil,nodup_nil⟩,λa ha b hb e=> ?_⟩;obtain⟨q,hq,rfl⟩:=mem_map.1 ha;have qu:b=id:=by simpa using hb
  have h3:=h.1 q hq;rw[e,qu]at h3;omega
theorem GoU.does(hW:WX X)(h:GoU X.S)(x:A11):GoU (doX X x).S:=by
 unfold doX
 split
 ·unfold zfO
  split
  ·have h1:=h.de hW.ws (p11 X x.one);exact h1.same (GoN.to _ h1.1) (zhi _ _)
  ·exact h
 ·split
  ·unfold znk puS
   split
   ·exact h.same (h.1.same (zh5 _ _ _).1 (zh5 _ _ _).2) (zh5 _ _ _).2
   ·exact h
  ·split
   ·unfold zoD cuS
    split
    ·exact h.same (h.1.same (zh5 _ _ _).1 (zh5 _ _ _).2) (zh5 _ _ _).2
    ·exact h
   ·split
    ·unfold zfX
     split
     ·exact h.same (GoN.to _ h.1) (zhi _ _)
     ·exact h
    ·split
     ·unfold zha
      split
      ·show GoU (if (zak X.L (p11 X x.one)).isSome=true then toS X.S [p11 X x.one] else X.S)
       split
       ·exact h.same (GoN.to _ h.1) (zhi _ _)
       ·exact h
      ·exact h
     ·split
      ·exact h
      ·unfold zez
       split
       ·exact h
       ·exact h.same (h.1.sp _) (by unfold spS;split <;> rfl)
theorem zyU(h:GoU S)(since:Int):(goL S since).Nodup:=by
 unfold goL;have hp:=zcJ ((S.go.filter λx=>decide (since<x.2)).map Prod.fst) [];rw[append_nil]at hp;exact hp.nodup_iff.2 (h.2.1.sublist (List.Sublist.map _ filter_sublist))
theorem zvy(h:GoU S)(since:Int):Rgs (goL S since):=λx hx=>by
 obtain⟨t,ht,_⟩:=zqy.1 hx;exact h.2.2 _ ht
def NowOk(S:St):Prop:=(∀q∈S.ch,q.2<=S.now)/\∀q∈S.go,q.2<=S.now
theorem zi8{ch:List (Int × Int)}{id now:Int}(h:∀q∈ch,q.2<=now):∀q∈zb8 ch id now,q.2<=now:=λq hq=>by
 unfold zb8 at hq;rcases mem_append.1 hq with m | m
 ·exact h q (mem_filter.1 m).1
 ·have e:q=(id,now):=by simpa using m
  rw[e];exact Int.le_refl _
theorem NowOk.zero(r:Nat):NowOk (St0 r):=⟨λq hq=>(by cases hq),λq hq=>(by cases hq)⟩
theorem NowOk.to1(h:NowOk S)(x:Int):NowOk (to1 S x):=by
 unfold Proofs.YtlibdcmcbinfnaaGreat.to1
 split
 ·exact⟨zi8 h.1,h.2⟩
 ·exact h
theorem NowOk.to:∀ (l:List Int) {S:St},NowOk S->NowOk (toS S l)
 | [],_,h=>h
 | x::l,_,h=>NowOk.to l (h.to1 x)
theorem NowOk.sp(h:NowOk S)(P:PT):NowOk (spS S P):=by
 unfold spS
 split
 ·exact⟨zi8 h.1,h.2⟩
 ·exact h
theorem NowOk.lay(h:NowOk S)(id:Int)(P:PT):NowOk (zdA S id P):=by
 unfold zdA
 split
 ·exact⟨zi8 h.1,h.2⟩
 ·exact h
theorem NowOk.de(h:NowOk S)(id:Int):NowOk (deS S id):=by
 unfold deS
 split
 ·refine⟨h.1,λq hq=> ?_⟩
  ·rcases mem_append.1 hq with m | m
   ·exact h.2 q m
   ·have e:q=(id,S.now):=by simpa using m
    rw[e];exact Int.le_refl _
 ·exact h
theorem NowOk.ne(h:NowOk S):NowOk (neS S):=⟨λq hq=>by have:=h.1 q hq;show q.2<=S.now+1;omega,λq hq=>by have:=h.2 q hq;show q.2<=S.now+1;omega⟩
theorem NowOk.does(h:NowOk X.S)(x:A11):NowOk (doX X x).S:=by
 unfold doX
 split
 ·unfold zfO
  split
  ·exact NowOk.to _ (h.de _)
  ·exact h
 ·split
  ·unfold znk puS
   split
   ·exact h.lay _ _
   ·exact h
  ·split
   ·unfold zoD cuS
    split
    ·exact h.lay _ _
    ·exact h
   ·split
    ·unfold zfX
     split
     ·exact NowOk.to _ h
     ·exact h
    ·split
     ·unfold zha
      split
      ·show NowOk (if (zak X.L (p11 X x.one)).isSome=true then toS X.S [p11 X x.one] else X.S)
       split
       ·exact NowOk.to _ h
       ·exact h
      ·exact h
     ·split
      ·exact h.ne
      ·unfold zez
       split
       ·exact h
       ·exact h.sp _
theorem znD(S:St)(id:Int)(P:PT):(zdA S id P).room=S.room:=by unfold zdA;split <;> rfl
theorem zi9:∀ (l:List Int) (S:St),(toS S l).room=S.room
 | [],_=>rfl
 | x::l,S=>(zi9 l (to1 S x)).trans (by unfold to1;split <;> rfl)
theorem zxg(S:St)(id:Int):(deS S id).room=S.room:=by unfold deS;split <;> rfl
theorem zrH(X:Sc)(x:A11):(doX X x).S.room=X.S.room:=by
 unfold doX
 split
 ·unfold zfO
  split
  ·exact (zi9 _ _).trans (zxg _ _)
  ·rfl
 ·split
  ·unfold znk puS
   split
   ·exact znD _ _ _
   ·rfl
  ·split
   ·unfold zoD cuS
    split
    ·exact znD _ _ _
    ·rfl
   ·split
    ·unfold zfX
     split
     ·exact zi9 _ _
     ·rfl
    ·split
     ·unfold zha
      split
      ·show (if (zak X.L (p11 X x.one)).isSome=true then toS X.S [p11 X x.one] else X.S).room=_
       split
       ·exact zi9 _ _
       ·rfl
      ·rfl
     ·split
      ·rfl
      ·unfold zez
       split
       ·rfl
       ·show (spS X.S x.P).room=_;unfold spS
        split <;> rfl
theorem zub(h:WS S){x:Int}(hx:zai S x=true):(x % 256).toNat<S.room:=by
 obtain⟨i,hi,hr,hL,e⟩:=zgG hx;rw[hr];exact (h.ok.2.2 i hL).1
structure XS where
 D:FD
 R:List Rc
 S:SlR
 since:Int
 n:Nat
def XS0:XS:=⟨FD0,[],[],0,0⟩
def XSn(n:Nat):XS:=⟨FD0,[],[],0,n⟩
def zaZ(X:Sc)(E:XS):List Int:=zbW (zah (zaI X E.D E.since)++goL X.S E.since)
def Synced(X:Sc)(E:XS)(zs:List Int)(e:Int)(E':XS):Prop:=
 (zey (zaI X E.D E.since)≠0/\zs=[]/\e=zey (zaI X E.D E.since)/\E'=XSn (E.n+(zaZ X E).length))∨
 (zey (zaI X E.D E.since)=0/\zbp (eX X (zaI X E.D E.since).L) (zaZ X E)≠0/\zs=[]/\e=zbp (eX X (zaI X E.D E.since).L) (zaZ X E)/\E'=XSn (E.n+(zaZ X E).length))∨
 (zey (zaI X E.D E.since)=0/\zbp (eX X (zaI X E.D E.since).L) (zaZ X E)=0/\zs=zaZ X E/\e=0/\∃R',Wk (oX X (zaI X E.D E.since).L) E.R (zaZ X E) R'/\E'=⟨zc4 (zaI X E.D E.since),R',zcN (R'.map Rc.id) E.S,X.S.now,E.n+(zaZ X E).length⟩)
theorem Synced.one{E E1 E2:XS}{z1 z2:List Int}{e1 e2:Int}(h1:Synced X E z1 e1 E1)(h2:Synced X E z2 e2 E2):z1=z2/\e1=e2/\E1=E2:=by
 rcases h1 with ⟨a,b,c,d⟩ | ⟨a,a2,b,c,d⟩ | ⟨a,a2,b,c,R1,d,d2⟩ <;> rcases h2 with ⟨a',b',c',d'⟩ | ⟨a',N4,b',c',d'⟩ | ⟨a',N4,b',c',R2,d',gB⟩
 ·exact⟨b.trans b'.symm,c.trans c'.symm,d.trans d'.symm⟩
 ·exact absurd a' a
 ·exact absurd a' a
 ·exact absurd a a'
 ·exact⟨b.trans b'.symm,c.trans c'.symm,d.trans d'.symm⟩
 ·exact absurd N4 a2
 ·exact absurd a a'
 ·exact absurd a2 N4
 ·have e:=d.one d';subst e;exact⟨b.trans b'.symm,c.trans c'.symm,d2.trans gB.symm⟩
structure SX3 (X:Sc):Prop where
 first:ToldX (λ_ _=>False) (λ_=>none) 0 X
 go:GoU X.S
 marks:NowOk X.S
theorem SX3.wx(h:SX3 X):WX X:=h.first.wx
theorem SX3.zero{r:Nat}(h:r<=256):SX3 (Sc0 r):=⟨ToldX.first h,GoU.zero r,NowOk.zero r⟩
theorem SX3.does(h:SX3 X)(x:A11):SX3 (doX X x):=⟨h.first.does x,h.go.does h.wx x,h.marks.does x⟩
theorem SX3.ne(h:SX3 X):SX3 (zfY X):=⟨h.first.ne,h.go,h.marks.ne⟩
def EOk(X:Sc)(E:XS):Prop:=(∃n,E=XSn n)∨
 ∃X0,WX X0/\zed X0 E.D.L/\zxe X0 E.D E.R/\ToldX (λx P=>inS X0.S x P) (zak X0.L) E.since X/\SI E.S/\∀y,0<=zau E.S y↔y∈E.R.map Rc.id
section
variable {X:Sc} {E E':XS} {zs:List Int} {e:Int}
theorem EOk.does(h:EOk X E)(x:A11):EOk (doX X x) E:=h.imp id (λ⟨X0,a,b,c,d,r⟩=>⟨X0,a,b,c,d.does x,r⟩)
theorem EOk.know(hX:SX3 X)(h:EOk X E):zhg X E.D E.since:=by
 rcases h with ⟨n,rfl⟩ | ⟨X0,a,b,c,d,r⟩
 ·exact zoH hX.first hX.go.1
 ·exact zrD c.dok b a d hX.go.1
theorem EOk.si(h:EOk X E):SI E.S:=by
 rcases h with ⟨n,rfl⟩ | ⟨X0,a,b,c,d,r⟩
 ·exact SI.nil
 ·exact r.1
theorem EOk.has(h:EOk X E):∀y,0<=zau E.S y↔y∈E.R.map Rc.id:=by
 rcases h with ⟨n,rfl⟩ | ⟨X0,a,b,c,d,r⟩
 ·intro y;exact⟨λq=>absurd q (by show ¬(0:Int)<=-1;omega),λq=>(by cases q)⟩
 ·exact r.2
theorem EOk.rise(h:EOk X E):zdp E.R:=by
 rcases h with ⟨n,rfl⟩ | ⟨X0,a,b,c,d,r⟩
 ·exact List.Pairwise.nil
 ·exact c.rise
theorem EOk.take(hX:SX3 X)(h:EOk X E):DOk (zaI X E.D E.since):=zl0 (h.know hX) (λ_=>zi3 hX.wx)
theorem EOk.nodes(hX:SX3 X)(h:EOk X E):zed X (zaI X E.D E.since).L:=by
 rw[(zi2 hX.wx (h.know hX) (λ_=>zfy hX.wx)).1];exact zdi hX.wx (h.know hX)
theorem zfA(hX:SX3 X)(h:EOk X E){x:Int}(hx:x∈zah (zaI X E.D E.since)):zai X.S x=true:=by
 have h1:=zbn (h.take hX).wf hx;rw[h.nodes hX x]at h1
 by_cases c:zai X.S x=true
 ·exact c
 ·rw[if_neg c]at h1;cases h1
theorem zrI(hX:SX3 X)(h:EOk X E):(zah (zaI X E.D E.since)++goL X.S E.since).Nodup:=
 nodup_append.2 ⟨ziQ (h.take hX).wf _,zyU hX.go _,λa ha b hb e=>by
  have h1:=zfA hX h ha;rw[e,hX.go.1.dead hb]at h1
  cases h1⟩
theorem zrJ{l:List Int}(h:l.Nodup):(zbW l).Pairwise (·<·):=by
 have hp:=zcJ l [];rw[append_nil]at hp;have hn:(zbW l).Nodup:=hp.nodup_iff.2 h;have hs:(zbW l).Pairwise (·<=·):=zbP l [] List.Pairwise.nil;exact hs.imp₂ (fun {a b} h1 (h2:a≠b)=>om) hn
theorem zkw(hX:SX3 X)(h:EOk X E):(zaZ X E).Pairwise (·<·):=zrJ (zrI hX h)
theorem zdm:x∈zaZ X E↔x∈zah (zaI X E.D E.since)∨x∈goL X.S E.since:=by
 unfold zaZ;rw[zf8,mem_append]
theorem zrK(hX:SX3 X)(h:EOk X E):Rgs (zaZ X E):=λx hx=>by
 rcases zdm.1 hx with m | m
 ·exact zdk (zfA hX h m)
 ·exact zvy hX.go _ x m
end
theorem zrL{c:Array Value}(hc:c.toList=(range 513).map (zbC 0 z0 n0))(R:Int)(t:TypeId)(w:World):(w.alloc (.cells (c.setIfInBounds 0 (.int .i64 R)) t)).rowIs w.heap.size t 513 (zbC R z0 n0):=by
 have hs:c.size=513:=by rw[<-Array.length_toList,hc];simp
 have h:=World.rowIs_alloc w (c.setIfInBounds 0 (.int .i64 R)) t (zbC R z0 n0) (λi hi=>by
  have hi':i<513:=by simpa[hs] using hi
  by_cases e:i=0
  ·subst e;rw[Array.getElem?_setIfInBounds_self_of_lt om];rfl
  ·rw[Array.getElem?_setIfInBounds_ne om,<-Array.getElem?_toList,hc];simp only[getElem?_map,getElem?_range hi',Option.map_some];unfold zbC
   rw[if_neg e,if_neg e])
 rwa [Array.size_setIfInBounds,hs]at h
theorem qnew(R:Nat)(w:World)(hR:R<=256):
  Calls prog 59 #[.int .i64 R] w λe w'=>∃g,e= .returned (.tuple #[.pointer (some ⟨g,0,none⟩),.int .i64 0])/\w.heap.size<=g/\w'.rowIs g 189 513 (zbC R z0 n0)/\Bw w w':=by
 have h0:¬((R:Int)<0):=om;have h1:¬((256:Int)<(R:Int)):=om;have zv:=zwt;have zn:=zzN;have zs:=zql;go_enter func59,ntmps59;go_wp2;go_ret2;exact⟨w.heap.size,rfl,Nat.le_refl _,zrL zws _ _ _,zaa _ _⟩
theorem qbad(x:Int)(w:World)(hx:x<0∨256<x):
  Calls prog 59 #[.int .i64 x] w λe w'=>e= .returned (.tuple #[.pointer none,.int .i64 1])/\Bw w w':=by
 rcases hx with h | h
 all_goals
  go_enter func59,ntmps59;go_wp2;go_ret2;exact⟨rfl,Below.refl _ _⟩
theorem zoK(x:Int)(w:World):
  Calls prog 107 #[.int .i64 x] w λe w'=>e= .returned (.bool (zel x))/\w=w':=by
 unfold zel
 by_cases h1:0<=x
 ·have g1:decide (0<=x)=true:=by simpa using h1
  go_enter func107,ntmps107;go_wp2;go_ret;exact⟨by rw[g1];rfl,rfl⟩
 ·have g1:decide (0<=x)=false:=by simpa using h1
  go_enter func107,ntmps107;go_wp2;go_ret;exact⟨rfl,rfl⟩
theorem zdw{b:Bool}(h:zel x=b)(w:World):
  Calls prog 107 #[.int .i64 x] w λe w'=>e= .returned (.bool b)/\w=w':=(zoK x w).mono λ_ _ ⟨he,hw⟩=>⟨by rw[he,h],hw⟩
theorem zrM(x:Int)(w:World):
  Calls prog 108 #[.int .i64 x] w λe w'=>e= .returned (.int .i64 (if zel x then x % 256 else -1))/\w=w':=by
 by_cases ho:zel x=true
 ·obtain⟨i,q,hi,hq,hx,ht,hd⟩:=zeF ho;rw[if_pos ho,show x % 256=(i:Int) by omega];have HO:=kA ho;clear ho hx hd;go_enter func108,ntmps108;go_wp2_with fail;refine (zdw HO _).mono ?_;rintro e w1 ⟨rfl,rfl⟩;go_wp2;go_ret;exact⟨rfl,rfl⟩
 ·have d7:zel x=false:=by simpa using ho
  rw[if_neg ho];have HO:=kA d7;clear ho d7;go_enter func108,ntmps108;go_wp2_with fail;refine (zdw HO _).mono ?_;rintro e w1 ⟨rfl,rfl⟩;go_wp2;go_ret;exact⟨rfl,rfl⟩
theorem qgen(x:Int)(w:World):
  Calls prog 109 #[.int .i64 x] w λe w'=>e= .returned (.int .i64 (if zel x then x / 256 else -1))/\w=w':=by
 by_cases ho:zel x=true
 ·obtain⟨i,q,hi,hq,hx,ht,hd⟩:=zeF ho;rw[if_pos ho,show x / 256=(q:Int) by omega];have HO:=kA ho;clear ho hx ht;go_enter func109,ntmps109;go_wp2_with fail;refine (zdw HO _).mono ?_;rintro e w1 ⟨rfl,rfl⟩;go_wp2;go_ret;exact⟨rfl,rfl⟩
 ·have d7:zel x=false:=by simpa using ho
  rw[if_neg ho];have HO:=kA d7;clear ho d7;go_enter func109,ntmps109;go_wp2_with fail;refine (zdw HO _).mono ?_;rintro e w1 ⟨rfl,rfl⟩;go_wp2;go_ret;exact⟨rfl,rfl⟩
theorem zuc(g:Nat)(R:Int)(G:Nat->Int)(L:Nat->Bool)(x:Int)(w:World)(row:w.rowIs g 189 513 (zbC R G L)):
  Calls prog 61 #[.pointer (some ⟨g,0,none⟩),.int .i64 x] w λe w'=>e= .returned (.bool (zbO G L x))/\Bw w w':=by
 by_cases ho:zel x=true
 ·obtain⟨i,q,hi,hq,hx,ht,hd⟩:=zeF ho;have HO:=kA ho;rw[show zbO G L x=(L i && decide (G i=(q:Int))) by rw[hx];exact zwo hi hq];have CU:Hid (∀w',Calls prog 108 #[.int .i64 x] w' λe dN=>e= .returned (.int .i64 (i:Int))/\w'=dN):=kA (λw'=>(zrM x w').mono λ_ _ ⟨he,hw⟩=>⟨by rw[he,if_pos ho,show x % 256=(i:Int) by omega],hw⟩);have bP:Hid (∀w',Calls prog 109 #[.int .i64 x] w' λe dN=>e= .returned (.int .i64 (q:Int))/\w'=dN):=kA (λw'=>(qgen x w').mono λ_ _ ⟨he,hw⟩=>⟨by rw[he,if_pos ho,show x / 256=(q:Int) by omega],hw⟩);clear ho hx ht hd;have cl:=zdK row hi;have cg:=zf6 row hi;clear row;have kB:(0:Int)<=(i:Int):=om;have jN:(i:Int)<256:=om;obtain⟨b,hb⟩:∃b,b=L i:=⟨_,rfl⟩;obtain⟨y,hy⟩:∃y,y=G i:=⟨_,rfl⟩;rw[<-hb]at cl;rw[<-hy]at cg;rw[<-hb,<-hy];clear hb hy
  cases b
  ·go_enter func61,ntmps61;go_wp2_with fail;refine (zdw HO _).mono ?_;rintro e w1 ⟨rfl,rfl⟩;go_wp2_with fail;refine (CU _).mono ?_;rintro e w1 ⟨rfl,rfl⟩;go_wp2;go_quiet (fail);go_wp2;go_ret;exact⟨rfl,Go.below_drewN (Below.refl _ _) nq⟩
  ·go_enter func61,ntmps61;go_wp2_with fail;refine (zdw HO _).mono ?_;rintro e w1 ⟨rfl,rfl⟩;go_wp2_with fail;refine (CU _).mono ?_;rintro e w1 ⟨rfl,rfl⟩;go_wp2
   go_region_held3 (λw'=>w'.cell? ⟨g,257+i,none⟩=some (.bool true)/\w'.cell? ⟨g,1+i,none⟩=some (.int .i64 y)) (first | exact⟨cl,cg⟩ | go_keep)
    (first | (go_at_call 109;refine (bP _).mono ?_;rintro e w2 ⟨rfl,rfl⟩))
   go_wp2;go_ret;exact⟨by simp;rfl,za5 (Below.refl _ _)⟩
 ·have d7:zel x=false:=by simpa using ho
  rw[zqi d7];have HO:=kA d7;clear ho d7 row;go_enter func61,ntmps61;go_wp2_with fail;refine (zdw HO _).mono ?_;rintro e w1 ⟨rfl,rfl⟩;go_wp2;go_ret;exact⟨rfl,Below.refl _ _⟩
theorem zja{G:Nat->Int}{L:Nat->Bool}{R:Nat}(h:∀i,L i=true->i<R):∀n,zd3 G L (R+n)=zd3 G L R
 | 0=>rfl
 | n+1=>by
  have hL:L (R+n)=false:=by
   by_cases c:L (R+n)=true
   ·have:=h _ c;omega
   ·simpa using c
  rw[<-Nat.add_assoc,zqk hL];exact zja h n
theorem zxh(g:Nat)(R:Int)(G:Nat->Int)(L:Nat->Bool)(k:Nat)(w:World)(hG:ztb G)(hk:k<256)(row:w.rowIs g 189 513 (zbC R G L)):
  Calls prog 178 #[.pointer (some ⟨g,0,none⟩),.int .i64 (k:Int)] w λe w'=>e= .returned (.int .i64 (nm (G k) k))/\w=w':=by
 have cg:=zf6 row hk;have qS:=hG k hk;unfold nm;clear row hG;obtain⟨y,hy⟩:∃y,y=G k:=⟨_,rfl⟩;rw[<-hy]at cg qS;rw[<-hy];clear hy;have hk0:(0:Int)<=(k:Int):=om;have Cw:(k:Int)<256:=om;have Cz:IntKind.i64.wrap (256*y)=256*y:=IntWalk.i64_in _ om;have xv:IntKind.i64.wrap (256*y+(k:Int))=256*y+(k:Int):=IntWalk.i64_in _ om;go_enter func178,ntmps178;go_wp2;go_ret;exact⟨rfl,rfl⟩
theorem qall(g R:Nat)(G:Nat->Int)(L:Nat->Bool)(w:World)(hP:POk R G L)(row:w.rowIs g 189 513 (zbC R G L)):
  Calls prog 161 #[.pointer (some ⟨g,0,none⟩)] w λe w'=>∃a cap,e= .returned (.slice a (zd3 G L 256).length cap)/\Row w' a (zd3 G L 256).length (zd3 G L 256)/\Bw w w':=by
 have d8:zd3 G L 256=zd3 G L R:=by
  have h1:=zja (G:=G) (λi hi=>(hP.2.2 i hi).1) (256 - R);have h2:=hP.1
  rwa [show R+(256 - R)=256 by omega]at h1
 rw[d8];have hR:=hP.1;have hJ:=kA row;have HG:=kA hP.gen;have cr:=zgD row;clear row hP d8;obtain⟨i0,kB,kQ,kR,kH⟩:=info_parts zcr;have HI:=kA (And.intro kB (And.intro kQ (And.intro kR kH)));clear kB kQ kR kH;go_enter func161,ntmps161;go_wp2
 go_loopw [3,11] (λv i wr=>∃k:Nat,k<=R/\i= .int .i64 k/\OwnD wr w.heap.size v (zd3 G L k).length (zd3 G L k)/\Bw w wr) (λ_ i _=>R - (intOf i).toNat)
 case atStart=>exact⟨0,om,rfl,OwnD.nil _ _,Below.refl _ _⟩
 case round=>
  clear cr;obtain⟨k,hk,rfl,Hc,hb⟩:=hrel;have Hp:=kA Hc;have HB:=kA hb;clear Hc hb;have H7:=kA (World.rowIs.keep hJ HB)
  by_cases hlt:k<R
  ·have cl:=zdK H7 (k:=k) om;have hk0:(0:Int)<=(k:Int):=om;have Cw:(k:Int)<256:=om;have bQ:(k:Int)<(R:Int):=om;have zg:g<wr.heap.size:=H7.lt;have hle:=ziu G L k
   by_cases hL:L k=true
   ·rw[hL]at cl;have HA:=kA (zqj (G:=G) hL);clear hL;obtain⟨n,hn⟩:∃n,n=(zd3 G L k).length:=⟨_,rfl⟩;rw[<-hn]at Hp hle;have HN:=kA hn;clear hn;have Kr:w.heap.size<=wr.heap.size:=HB.size;go_wp2_with fail;refine (zxh g R G L k _ HG om H7).mono ?_;rintro e w1 ⟨rfl,rfl⟩;go_wp2_with (at_builtin;refine wpList_append_own _ rfl (.tmp 20) (.tmp 24) 35 rfl w.heap.size 81 i0 (.int .i64 0) 1 8 underlying35 HI.1 HI.2.1 HI.2.2.1 HI.2.2.2 rfl (by decide) _ _ _ rfl (Hp.alloc _) ⟨wr.heap.size,0,none⟩ 1 1 [.int .i64 (nm (G k) k)] rfl rfl (cell_one_new _ _ _) (by intro u hu;simp at hu;subst hu;rfl) (by unfold maxLen;omega) om (by simp;omega) ?_);intro v' w2 kJ kK _;have Kv:=kA kJ;have Cx:=kA kK;clear kJ kK;go_wp2;go_roundw
    case rel=>
     have el:(zd3 G L (k+1)).length=n+1:=by rw[HA.out,length_append,<-HN.out];rfl
     refine⟨k+1,om,by go_num,?_,zbS Hp (Nat.le_refl _) HB Kr Cx⟩;rw[el];unfold OwnD;rw[HA.out,map_append];exact Kv
    case measure=>simp[intOf] <;> omega
   ·have Cy:L k=false:=by simpa using hL
    rw[Cy]at cl;have HA:=kA (zqk (G:=G) Cy);clear hL Cy;go_wp2;go_roundw
    case rel=>exact⟨k+1,om,by go_num,by rw[HA.out];exact Hp.out,HB⟩
    case measure=>simp[intOf] <;> omega
  ·obtain rfl:k=R:=om;obtain⟨a,cap,rfl,hr⟩:=Hp.row;have HA:=kA hr;clear hr;go_wp2;go_ret;exact⟨a,cap,rfl,HA.out,HB⟩
theorem zAd(g R:Nat)(G:Nat->Int)(L:Nat->Bool)(w:World)(hR:R<=256)(hG:ztb G)(row:w.rowIs g 189 513 (zbC R G L)):
  Calls prog 111 #[.pointer (some ⟨g,0,none⟩)] w λe w'=>e= .returned (.tuple #[.int .i64 (tkV G L R),.int .i64 (tkE G L R)])/\w'.rowIs g 189 513 (zbC R G (tkL G L R))/\w.grownBy w' (some g):=by
 have hJ:=kA row;have HG:=kA hG;have cr:=zgD row;clear row hG;go_enter func111,ntmps111;go_wp2
 go_loopw [11] (λi wr=>∃k:Nat,k<=R/\i= .int .i64 k/\(∀j,j<k->zgF G L j=false)/\wr=w) (λi _=>R - (intOf i).toNat)
 case atStart=>exact⟨0,om,rfl,λj hj=>om,rfl⟩
 case round=>
  obtain⟨k,hk,rfl,hz,rfl⟩:=hrel;have HZ:=kA hz;clear hz
  by_cases hlt:k<R
  ·have cl:=zdK hJ (k:=k) om;have cg:=zf6 hJ (k:=k) om;have fl:=hJ.frozen (257+k);have hk0:(0:Int)<=(k:Int):=om;have Cw:(k:Int)<256:=om;have bQ:(k:Int)<(R:Int):=om;obtain⟨b,hb⟩:∃b,b=L k:=⟨_,rfl⟩;obtain⟨y,hy⟩:∃y,y=G k:=⟨_,rfl⟩;have qS:=HG.out k om;rw[<-hb]at cl;rw[<-hy]at cg qS;have HF:Hid (zgF G L k=(!b && decide (y<=65535))):=kA (by unfold zgF;rw[hb,hy]);have HY:=kA hy;clear hb hy
   cases b
   ·by_cases hy:y<=65535
    ·have cj:1+k≠257+k:=om;go_wp2_with fail;refine (zxh g R G (upd L k true) k _ HG om (zgE hJ om true)).mono ?_;rintro e w1 ⟨rfl,rfl⟩;go_wp2;go_ret2;have e1:tkI G L R=some k:=zwp hlt HZ (by rw[HF.out];simpa using hy);have ev:tkV G L R=nm (G k) k:=by unfold tkV;rw[e1]
     have ee:tkE G L R=0:=by unfold tkE;rw[e1]
     refine⟨by rw[ev,ee];rfl,?_,zaR _ _ _ _⟩;unfold tkL;rw[e1];exact zgE hJ om true
    ·have dO:=kA (zjP HZ (by rw[HF.out];simpa using hy));go_wp2;go_roundw
     case rel=>exact⟨k+1,om,by go_num,dO.out,by trivial⟩
     case measure=>simp[intOf] <;> omega
   ·have dO:=kA (zjP HZ (by rw[HF.out];rfl));go_wp2;go_roundw
    case rel=>exact⟨k+1,om,by go_num,dO.out,by trivial⟩
    case measure=>simp[intOf] <;> omega
  ·obtain rfl:k=R:=om;have e1:tkI G L k=none:=zwq HZ;have HE:=kA e1;clear e1;go_wp2;go_ret2;have ev:tkV G L k=0:=by unfold tkV;rw[HE.out]
   have ee:tkE G L k=3:=by unfold tkE;rw[HE.out]
   have el:tkL G L k=L:=by unfold tkL;rw[HE.out]
   exact⟨by rw[ev,ee];rfl,by rw[el];exact hJ.out,World.grownBy.refl _ _⟩
theorem zAe(g:Nat)(R:Int)(G:Nat->Int)(L:Nat->Bool)(x:Int)(w:World)(hG:ztb G)(row:w.rowIs g 189 513 (zbC R G L)):
  Calls prog 117 #[.pointer (some ⟨g,0,none⟩),.int .i64 x] w λe w'=>e= .returned (.bool (zbO G L x))/\w'.rowIs g 189 513 (zbC R (drG G L x) (drL G L x))/\w.grownBy w' (some g):=by
 have hJ:=kA row;clear row
 by_cases ho:zbO G L x=true
 ·have hid:zel x=true:=by
   by_cases c:zel x=true
   ·exact c
   ·rw[zqi (by simpa using c)]at ho;cases ho
  obtain⟨i,q,hi,hq,hx,ht,hd⟩:=zeF hid;have qT:drL G L x=upd L i false:=by unfold drL;rw[if_pos ho,show (x % 256).toNat=i by omega]
  have qU:drG G L x=upd G i (G i+1):=by unfold drG;rw[if_pos ho,show (x % 256).toNat=i by omega]
  rw[qT,qU,ho];have HO:Hid (∀w',w'.rowIs g 189 513 (zbC R G L)->Calls prog 61 #[.pointer (some ⟨g,0,none⟩),.int .i64 x] w' λe dN=>e= .returned (.bool true)/\Bw w' dN):=
   kA (λw' hr=>(zuc g R G L x w' hr).mono λ_ _ ⟨he,hw⟩=>⟨by rw[he,ho],hw⟩)
  have CU:Hid (∀w',Calls prog 108 #[.int .i64 x] w' λe dN=>e= .returned (.int .i64 (i:Int))/\w'=dN):=kA (λw'=>(zrM x w').mono λ_ _ ⟨he,hw⟩=>⟨by rw[he,if_pos hid,show x % 256=(i:Int) by omega],hw⟩);have qS:=hG i hi;clear hG ho hid hx hd ht qT qU;have kB:(0:Int)<=(i:Int):=om;have jN:(i:Int)<256:=om;obtain⟨y,hy⟩:∃y,y=G i:=⟨_,rfl⟩;rw[<-hy]at qS;rw[<-hy];have Cz:IntKind.i64.wrap (y+1)=y+1:=IntWalk.i64_in _ om;go_enter func117,ntmps117;go_wp2_with fail;refine (HO _ hJ).mono ?_;rintro e w1 ⟨rfl,b1⟩;have Cx:=kA (zaQ b1 (some g));replace hJ:=kA (World.rowIs.keep hJ b1);clear b1;have cl:=zdK hJ hi;have fl:=hJ.frozen (257+i);have Hl:=kA (zgE hJ hi false);have cg:=zf6 Hl hi;have fg:=Hl.frozen (1+i);rw[<-hy]at cg;clear hy;go_wp2_with fail;refine (CU _).mono ?_;rintro e w2 ⟨rfl,rfl⟩;go_wp2
  go_region
  go_wp2;go_ret;exact⟨rfl,zor (zqh Hl hi _),zap Cx (zos (zap (zaR _ _ _ _) (zaR _ _ _ _)))⟩
 ·have d7:zbO G L x=false:=by simpa using ho
  have qT:drL G L x=L:=by unfold drL;rw[if_neg ho]
  have qU:drG G L x=G:=by unfold drG;rw[if_neg ho]
  rw[qT,qU,d7];have HO:Hid (∀w',w'.rowIs g 189 513 (zbC R G L)->Calls prog 61 #[.pointer (some ⟨g,0,none⟩),.int .i64 x] w' λe dN=>e= .returned (.bool false)/\Bw w' dN):=
   kA (λw' hr=>(zuc g R G L x w' hr).mono λ_ _ ⟨he,hw⟩=>⟨by rw[he,d7],hw⟩)
  clear ho d7 hG qT qU;go_enter func117,ntmps117;go_wp2_with fail;refine (HO _ hJ).mono ?_;rintro e w1 ⟨rfl,b1⟩;have Cx:=kA (zaQ b1 (some g));replace hJ:=kA (World.rowIs.keep hJ b1);clear b1;go_wp2;go_ret;exact⟨rfl,hJ.out,Cx⟩
end Go.Proofs.YtlibdcmcbinfnaaGreat
