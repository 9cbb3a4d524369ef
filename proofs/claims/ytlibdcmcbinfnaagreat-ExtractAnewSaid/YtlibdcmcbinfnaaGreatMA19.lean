/- Lemmas. -/
import Derived.Test.YtlibdcmcbinfnaaGreatMA18
set_option maxHeartbeats 100000000
set_option maxRecDepth 1000000
namespace Go.Proofs.YtlibdcmcbinfnaaGreat
open _root_.Go.Proofs.Tryz List Nat
open Go.RowKit
variable{xs ns:List Int}{n i cap:Nat}{c p z y x:Int}{w w1 w2:World}{M:Nat->Prop}{L:FT}{a:Option Addr}
theorem zke{X:List Value}(ht:X.take i=(xs.take i).map (Value.int .i64))(hx:xs.length=n)(hi:i<=n):
  (zaM (zaM X i [.int .i64 c]) (i+1) ((xs.drop i).map (Value.int .i64))).take (n+1)=(xs.take i++c::xs.drop i).map (Value.int .i64):=by
 have hd:((xs.drop i).map (Value.int .i64)).length=n - i:=by rw[length_map,length_drop];omega
 have h1:(zaM X i [.int .i64 c]).take (i+1)=(xs.take i).map (Value.int .i64)++[.int .i64 c]:=by
  unfold zaM;rw[ht,take_append_of_le_length (by simp;omega),take_of_length_le (by simp;omega)]
 rw[show zaM (zaM X i [.int .i64 c]) (i+1) ((xs.drop i).map (Value.int .i64))=(zaM X i [.int .i64 c]).take (i+1)++(xs.drop i).map (Value.int .i64)++(zaM X i [.int .i64 c]).drop (i+1+((xs.drop i).map (Value.int .i64)).length) from rfl,h1];rw[take_append_of_le_length (by rw[length_append,length_append,length_map,length_take,hd];simp;omega),take_of_length_le (by rw[length_append,length_append,length_map,length_take,hd];simp;omega)];simp
theorem zer(w:World):Bw w w.drew:=⟨rfl,rfl,rfl,Nat.le_refl _,λ_ _=>rfl⟩
theorem ztG{base vb:Nat}{v:Value}(h:OwnD w base v n xs)(kj:base<=w.heap.size)(hv:Blk w vb 81 #[.int .i64 c])(Vg:v.ownBlock≠some vb)(hi:i<=n)(hn:n<=100000):
  Calls prog 184 #[v,.int .i64 i,.slice (some ⟨vb,0,none⟩) 1 1] w λe w'=>
   ∃b cap,e= .returned (.slice (some ⟨b,0,none⟩) (n+1) cap)/\OwnD w' base (.slice (some ⟨b,0,none⟩) (n+1) cap) (n+1) (xs.take i++c::xs.drop i)/\w.grownBy w' v.ownBlock/\(v.ownBlock=some b∨w.heap.size<=b):=by
 have kh:=h.len
 by_cases hin:i=n
 ·subst hin;refine (ztF h kj hv hn).mono ?_;rintro e w' ⟨v',rfl,k1,k2,k3⟩;rw[take_of_length_le om,drop_of_length_le om];rcases k1.2 with ⟨_,q⟩ | ⟨g,cap,cur,rfl,_⟩
  ·omega
  ·refine⟨g,cap,rfl,k1,k2,?_⟩;rcases k3 with q | q
   ·exact .inl q.symm
   ·have e2:g=w.heap.size:=by injection q
    exact .inr om
 ·rcases h.2 with ⟨_,q⟩ | ⟨g,cap,cur,rfl,_⟩
  ·omega
  ·obtain⟨X,kM,Qb,Sb,ZF,hm,Si⟩:=h.cells;have Hd:vb≠g:=λe=>Vg (by rw[e];rfl);have xc:((xs.drop i).map (Value.int .i64)).length=n - i:=by rw[length_map,length_drop,kh]
   by_cases Dj:n+1<=cap
   ·refine (zoI h hv Hd om Dj).mono ?_;rintro e w' ⟨rfl,rfl⟩;have b1:Blk (w.drew.setCells g (i+1) ((xs.drop i).map (Value.int .i64))) g 81 (zaM X (i+1) ((xs.drop i).map (Value.int .i64))).toArray:=zaf _ (show Blk w.drew g _ _ from kM) (by rw[xc];omega);have l1:=zb8 (X:=X) (o:=i+1) (vs:=(xs.drop i).map (Value.int .i64)) (by rw[xc];omega);have b2:=zaf [Value.int .i64 c] (o:=i) b1 (by rw[l1];simp;omega);refine⟨g,cap,rfl,OwnD.of_cells b2 ?_ (zlQ Sb om kh hi) om hm Si,?_,.inl rfl⟩
    ·rw[zb8 (by rw[l1];simp;omega),l1,Qb]
    ·exact zaq (zaq (zaQ (zer w) _) (za3 _ _ _ _)) (za3 _ _ _ _)
   ·refine (zq9 h hv om om hn).mono ?_;rintro e w' ⟨G,ROW,rfl,mC,Tp,hR,mD,rfl⟩;have b0:Blk (w.alloc (.cells ROW.toArray 81)).drew w.heap.size 81 ROW.toArray:=Blk.new w _ _;have b1:=zaf [Value.int .i64 c] (o:=i) b0 (by simp;omega);have l1:=zb8 (X:=ROW) (o:=i) (vs:=[Value.int .i64 c]) (by simp;omega);have b2:=zaf ((xs.drop i).map (Value.int .i64)) (o:=i+1) (show Blk ((w.alloc (.cells ROW.toArray 81)).drew.setCells w.heap.size i [.int .i64 c]).drew _ _ _ from b1) (by rw[l1,xc];omega);refine⟨w.heap.size,G,rfl,OwnD.of_cells b2 ?_ (zke mD kh hi) mC Tp kj,?_,.inr (Nat.le_refl _)⟩
    ·rw[zb8 (by rw[l1,xc];omega),l1,hR]
    ·have q0:Bw w (w.alloc (.cells ROW.toArray 81)).drew:=zad (zaa w _) (zer _);have q1:=zab [Value.int .i64 c] (g:=w.heap.size) (o:=i) q0 (Nat.le_refl _);have q2:Bw w ((w.alloc (.cells ROW.toArray 81)).drew.setCells w.heap.size i [.int .i64 c]).drew:=zad q1 (zer _);exact zaQ (zab _ q2 (Nat.le_refl _)) _
def chO(L:FT)(bl cp:Int->Nat)(x:Int):Option (Nat × Nat × Nat):=if chF L x=[] then none else some (bl x,(chF L x).length,cp x)
structure LF (w:World) (g:Nat) (L:FT) (gp gc:Nat) (bl cp:Int->Nat):Prop where
 blk:Blk w g 142 #[.map (some gp),.map (some gc)]
 par:MF pK w gp (zak L)
 chd:MF cK w gc (chO L bl cp)
 row:∀x,chF L x≠[]->OwnD w 0 (.slice (some ⟨bl x,0,none⟩) (chF L x).length (cp x)) (chF L x).length (chF L x)
 inj:∀x y,chF L x≠[]->chF L y≠[]->bl x=bl y->x=y
 ne1:g≠gp
 ne2:g≠gc
 ne3:gp≠gc
 off:∀x,chF L x≠[]->bl x≠g/\bl x≠gp/\bl x≠gc
 rng:∀p∈L,Rg p.1/\Rg p.2
def zfR(L:FT)(g gp gc:Nat)(bl:Int->Nat)(b:Nat):Prop:=b=g∨b=gp∨b=gc∨∃x,chF L x≠[]/\b=bl x
def LFB(w:World)(g:Nat)(F:Nat->Prop)(L:FT):Prop:=∃gp gc bl cp,LF w g L gp gc bl cp/\∀b,F b↔zfR L g gp gc bl b
section
variable {w w':World} {g gp gc:Nat} {L L':FT} {bl cp bl' cp':Int->Nat} {F:Nat->Prop}
theorem LF.inb(h:LF w g L gp gc bl cp):∀b,zfR L g gp gc bl b->b<w.heap.size:=by
 rintro b (rfl | rfl | rfl | ⟨x,hx,rfl⟩)
 ·exact h.blk.lt
 ·exact h.par.lt
 ·exact h.chd.lt
 ·exact ((h.row x hx).lt _ rfl).2
theorem LF.same(h:LF w g L gp gc bl cp)(he:∀b,zfR L g gp gc bl b->w'.heap[b]? =w.heap[b]?):LF w' g L gp gc bl cp:=
 ⟨h.blk.same (he g (.inl rfl)),h.par.same (he gp (.inr (.inl rfl))),h.chd.same (he gc (.inr (.inr (.inl rfl)))),λx hx=>(h.row x hx).same (λb e=>he b (.inr (.inr (.inr ⟨x,hx,by injection e with e;exact e.symm⟩)))),h.inj,h.ne1,h.ne2,h.ne3,h.off,h.rng⟩
theorem LF.keep(h:LF w g L gp gc bl cp)(hb:Bw w w'):LF w' g L gp gc bl cp:=h.same (λb hf=>hb.block b (h.inb b hf))
theorem LF.c0(h:LF w g L gp gc bl cp):w.cell? ⟨g,0,none⟩=some (.map (some gp)):=h.blk.cell 0
theorem LF.c1(h:LF w g L gp gc bl cp):w.cell? ⟨g,1,none⟩=some (.map (some gc)):=h.blk.cell 1
theorem LFB.keep_(h:LFB w g F L)(he:∀b,F b->w'.heap[b]? =w.heap[b]?):LFB w' g F L:=by
 obtain⟨gp,gc,bl,cp,h1,h2⟩:=h;exact⟨gp,gc,bl,cp,h1.same (λb hb=>he b ((h2 b).2 hb)),h2⟩
theorem LFB.inb(h:LFB w g F L):∀b,F b->b<w.heap.size:=by
 obtain⟨gp,gc,bl,cp,h1,h2⟩:=h;exact λb hb=>h1.inb b ((h2 b).1 hb)
theorem LFB.keep(h:LFB w g F L)(hb:Bw w w'):LFB w' g F L:=h.keep_ (λb hf=>hb.block b (h.inb b hf))
theorem LF.fam(h:LF w g L gp gc bl cp)(x:Int):OwnD w 0 (cV (chO L bl cp x)) (chF L x).length (chF L x):=by
 unfold chO
 by_cases c:chF L x=[]
 ·rw[if_pos c,c];exact OwnD.nil _ _
 ·rw[if_neg c];exact h.row x c
theorem LF.rowOf(h:LF w g L gp gc bl cp)(x:Int):∃a cap,cV (chO L bl cp x)= .slice a (chF L x).length cap/\Row w a (chF L x).length (chF L x):=(h.fam x).row
theorem LF.step(h:LF w g L gp gc bl cp)(hF:∀b,F b↔zfR L g gp gc bl b){p:Int}
  (kw:Fr w w' (λb=>b=gp∨b=gc∨(chF L p≠[]/\b=bl p)))
  (Sj:MF pK w' gp (zak L'))(Yy:MF cK w' gc (chO L' bl' cp'))
  (He:chF L' p≠[]->OwnD w' 0 (.slice (some ⟨bl' p,0,none⟩) (chF L' p).length (cp' p)) (chF L' p).length (chF L' p))
  (Ho:chF L' p≠[]->(chF L p≠[]/\bl' p=bl p)∨w.heap.size<=bl' p)
  (Ku:∀x,x≠p->chF L' x=chF L x/\bl' x=bl x/\cp' x=cp x)
  (Sl:∀q∈L',Rg q.1/\Rg q.2):LF w' g L' gp gc bl' cp'/\ChF LFB w w' g F L':=by
 have hst:∀b,b<w.heap.size->b≠gp->b≠gc->(chF L p≠[]->b≠bl p)->w'.heap[b]? =w.heap[b]? :=λb hb h1 h2 h3=>kw.2.2.2.2 b hb (λc=>by
  rcases c with c | c | ⟨c,d⟩
  ·exact h1 c
  ·exact h2 c
  ·exact h3 c d)
 have hg:=h.blk.lt;have TL:=h.par.lt;have ES:=h.chd.lt;have hin:∀x,chF L x≠[]->bl x<w.heap.size:=λx hx=>((h.row x hx).lt _ rfl).2;have TW:LF w' g L' gp gc bl' cp':=by
  refine⟨h.blk.same (hst g hg h.ne1 h.ne2 (λc e=>(h.off p c).1 e.symm)),Sj,Yy,λx hx=> ?_,λx y hx hy e=> ?_,h.ne1,h.ne2,h.ne3,λx hx=> ?_,Sl⟩
  ·by_cases c:x=p
   ·rw[c]at hx ⊢;exact He hx
   ·obtain⟨e1,e2,e3⟩:=Ku x c;rw[e1]at hx ⊢;rw[e2,e3];refine (h.row x hx).same (λb e=> ?_);injection e with e;have e:bl x=b:=e;subst e;exact hst _ (hin x hx) (h.off x hx).2.1 (h.off x hx).2.2 (λd e=>c (h.inj x p hx d e))
  ·by_cases c:x=p
   ·by_cases d:y=p
    ·rw[c,d]
    ·exfalso;obtain⟨e1,e2,_⟩:=Ku y d;rw[e1]at hy;rw[e2,c]at e;rw[c]at hx;rcases Ho hx with ⟨q,q2⟩ | q
     ·rw[q2]at e;exact d (h.inj p y q hy e).symm
     ·have:=hin y hy;omega
   ·obtain⟨e1,e2,_⟩:=Ku x c;rw[e1]at hx
    by_cases d:y=p
    ·exfalso;rw[e2,d]at e;rw[d]at hy;rcases Ho hy with ⟨q,q2⟩ | q
     ·rw[q2]at e;exact c (h.inj x p hx q e)
     ·have:=hin x hx;omega
    ·obtain⟨f1,f2,_⟩:=Ku y d;rw[f1]at hy;rw[e2,f2]at e;exact h.inj x y hx hy e
  ·by_cases c:x=p
   ·rw[c]at hx ⊢;rcases Ho hx with ⟨q,q2⟩ | q
    ·rw[q2];exact h.off p q
    ·exact⟨om,om,om⟩
   ·obtain⟨e1,e2,_⟩:=Ku x c;rw[e1]at hx;rw[e2];exact h.off x hx
 refine⟨TW,zfR L' g gp gc bl',⟨gp,gc,bl',cp',TW,λ_=>Iff.rfl⟩,?_,?_⟩
 ·exact Fr.of kw (λb c=>(hF b).2 (by
   rcases c with c | c | ⟨c,d⟩
   ·exact .inr (.inl c)
   ·exact .inr (.inr (.inl c))
   ·exact .inr (.inr (.inr ⟨p,c,d⟩))))
 ·rintro b (e | e | e | ⟨x,hx,e⟩)
  ·exact .inl ((hF b).2 (.inl e))
  ·exact .inl ((hF b).2 (.inr (.inl e)))
  ·exact .inl ((hF b).2 (.inr (.inr (.inl e))))
  ·by_cases c:x=p
   ·rw[c]at hx e;rcases Ho hx with ⟨q,q2⟩ | q
    ·exact .inl ((hF b).2 (.inr (.inr (.inr ⟨p,q,by rw[e,q2]⟩))))
    ·exact .inr om
   ·obtain⟨e1,e2,_⟩:=Ku x c;rw[e1]at hx;exact .inl ((hF b).2 (.inr (.inr (.inr ⟨x,hx,by rw[e,e2]⟩))))
theorem zg9(w:World)(M:Nat->Prop):Fr w w M:=⟨rfl,rfl,rfl,Nat.le_refl _,λ_ _ _=>rfl⟩
theorem zcS{r:Option Nat}(h:Fr w w1 M)(hg:w1.grownBy w2 r)(hr:∀b,r=some b->M b∨w.heap.size<=b):Fr w w2 M:=
 ⟨hg.os.trans h.1,hg.tape.trans h.2.1,hg.output.trans h.2.2.1,Nat.le_trans h.2.2.2.1 hg.size,λb hb hn=>(hg.block b (Nat.lt_of_lt_of_le hb h.2.2.2.1) (λe=>(hr b e.symm).elim hn (λq=>om))).trans (h.2.2.2.2 b hb hn)⟩
theorem znh(h:Fr w w1 M)(hb:Bw w1 w2):Fr w w2 M:=Fr.behind h hb
end
def c9(x:A9):List Value:=[.int .u8 x.k,.slice x.a x.n x.cap]
section
variable {FB:World->Nat->(Nat->Prop)->FT->Prop}
theorem zw0(w:World)(t:TypeId)(xs:List Int)(h:xs.length<=1000):Row (w.alloc (.cells (xs.map (Value.int .i64)).toArray t)) (some ⟨w.heap.size,0,none⟩) xs.length xs:=by
 refine⟨rfl,om,.inr ⟨w.heap.size,0,rfl,λi hi=> ?_⟩⟩;have:=(Blk.new w t (xs.map (Value.int .i64)).toArray).cell (0+i);rw[this];simp[hi,getD]
end
section
variable {w:World} {g gp gc:Nat} {L:FT} {bl cp:Int->Nat}
theorem zlR(h:∀p∈L,Rg p.1/\Rg p.2){z y:Int}(hp:zak L z=some y):Rg z/\Rg y:=h _ (zbp hp)
theorem zra(hn:(L.map Prod.fst).Nodup)(h:∀p∈L,Rg p.1/\Rg p.2){x z:Int}(hz:z∈chF L x):Rg z:=(zlR h ((zaA hn).1 hz)).1
theorem zw1(h:WF L){c p:Int}(hc:c∈abv L p):chF L c≠[]:=λe=>by
 have h1:p∈beh L c:=(ziE h).2 (.inr hc);rw[zqH h,e]at h1;rw[flatMap_nil,mem_singleton]at h1;rw[h1]at hc;exact zfr h c hc
theorem zes(h:LF w g L gp gc bl cp){x:Int}(hx:Rg x):
  Calls prog 251 #[.pointer (some ⟨g,0,none⟩),.int .i64 x] w λe w'=>e= .returned (.tuple #[.int .i64 (zjy (zak L x)),.bool (zak L x).isSome])/\w=w':=by
 have c0:=h.c0;have hg:=h.blk.lt;have hl:(Instr.lookup 139 (.map (some gp)) (.int .i64 x) true).run prog w= .ok (.tuple #[.int .i64 (zjy (zak L x)),.bool (zak L x).isSome]) w:=h.par.look hx;obtain⟨pv,Yz⟩:∃pv,pv=zjy (zak L x):=⟨_,rfl⟩;obtain⟨pb,Qc⟩:∃pb,pb=(zak L x).isSome:=⟨_,rfl⟩;rw[<-Yz,<-Qc]at hl ⊢;clear h Yz Qc;go_enter func251,ntmps251;go_wp2;go_ret2;exact⟨rfl,rfl⟩
theorem zeV(h:LF w g L gp gc bl cp)(hL:L.length<=1000){x:Int}(hx:Rg x):
  Calls prog 121 #[.pointer (some ⟨g,0,none⟩),.int .i64 x] w λe w'=>∃v,e= .returned v/\OwnD w' w.heap.size v (chF L x).length (chF L x)/\Bw w w':=by
 have c1:=h.c1;have hg:=h.blk.lt;obtain⟨a,cap,hv,hr⟩:=h.rowOf x;have hl:(Instr.lookup 140 (.map (some gc)) (.int .i64 x) false).run prog w= .ok (cV (chO L bl cp x)) w:=h.chd.get hx;rw[hv]at hl;have hn:=zeq L x;have HC:=kA (zh1 (cap:=cap) hr om);obtain⟨n,Ka⟩:∃n,n=(chF L x).length:=⟨_,rfl⟩;rw[<-Ka]at hl HC ⊢;clear h hv hr hn Ka;go_enter func121,ntmps121;go_wp2_with fail;refine HC.mono ?_;rintro e w1 ⟨v,rfl,k1,k2⟩;have K:=kA (And.intro k1 k2);clear k1 k2;go_wp2;go_ret;exact⟨v,rfl,K⟩
theorem zet(h:Row w a n xs)(hn:n<=100000)(hs:xs.Pairwise (·<=·))(x:Int):
  Calls prog 182 #[.slice a n cap,.int .i64 x] w λe w'=>e= .returned (.tuple #[.int .i64 (zhG xs x:Nat),.bool (decide (x∈xs))])/\Bw w w':=by
 refine (zq8 h hn hs x).mono ?_;rintro e w' ⟨rfl,q,rfl⟩;exact⟨rfl,Go.below_drewN (Below.refl _ _) q⟩
def zeg(L:FT)(ns:List Int)(x:Int):Bool:=(abv L x).any (λa=>decide (a∈ns))
theorem zrb(h:WF L){ns:List Int}{x:Int}(hp:zak L x=none):zeg L ns x=false:=by
 unfold zeg;rw[zeP h hp];rfl
theorem zrc(h:WF L){ns:List Int}{x y:Int}(hp:zak L x=some y):zeg L ns x=(decide (y∈ns) || zeg L ns y):=by
 unfold zeg;rw[za0 h hp];rfl
theorem zni(h:LF w g L gp gc bl cp)(hW:WF L){x:Int}(hx:Rg x){a:Option Addr}{n cap:Nat}{ns:List Int}(hr:Row w a n ns)(hn:n<=100000)(hs:ns.Pairwise (·<=·)):
  Calls prog 181 #[.pointer (some ⟨g,0,none⟩),.int .i64 x,.slice a n cap] w λe w'=>e= .returned (.bool (zeg L ns x))/\Bw w w':=by
 have D5:Hid (∀u z,Bw w u->Rg z->(Instr.lookup 139 (.map (some gp)) (.int .i64 z) true).run prog u= .ok (.tuple #[.int .i64 (zjy (zak L z)),.bool (zak L z).isSome]) u/\u.cell? ⟨g,0,none⟩=some (.map (some gp))/\g<u.heap.size):=kA (λu z q hz=>⟨(h.keep q).par.look hz,(h.keep q).c0,(h.keep q).blk.lt⟩);have Kq:Hid (∀u y,Bw w u->Calls prog 182 #[.slice a n cap,.int .i64 y] u λe w'=>e= .returned (.tuple #[.int .i64 (zhG ns y:Nat),.bool (decide (y∈ns))])/\Bw u w'):=kA (λu y q=>zet (zar hr q) hn hs y);have cC:Hid (∀z y,zak L z=some y->Rg y):=kA (λz y e=>(zlR h.rng e).2);have HW:=kA hW;obtain⟨hl,c0,hg⟩:=D5.out w x (Below.refl _ _) hx;clear h hW hr hs;go_enter func181,ntmps181;go_wp2
 go_loopw [7,8,9,10] (λv7 v8 _ _ wr=>∃z:Int,v7= .int .i64 (zjy (zak L z))/\v8= .bool (zak L z).isSome/\zeg L ns x=zeg L ns z/\Bw w wr) (λv7 v8 _ _ _=>match v8 with | .bool true=>abM L v7 | _=>0)
 case atStart=>exact⟨x,rfl,rfl,rfl,Below.refl _ _⟩
 case round=>
  clear hl c0 hg hx;obtain⟨z,rfl,rfl,he,hb⟩:=hrel;have HE:=kA he;have HB:=kA hb;clear he hb
  cases Xk:zak L z with
  | none=>
   have HR:=kA (HE.trans (zrb HW Xk));clear Xk;go_wp2;go_ret;exact⟨by rw[HR.out];rfl,HB⟩
  | some y=>
   have HR:=kA (HE.trans (zrc HW Xk));have HY:=kA (cC z y Xk);clear Xk;have e1:zjy (some y)=y:=rfl;rw[e1];have HF:=kA (Kq _ y HB);obtain⟨fb,Qd⟩:∃fb,fb=decide (y∈ns):=⟨_,rfl⟩;obtain⟨fc,jf⟩:∃fc,fc=zhG ns y:=⟨_,rfl⟩;rw[<-Qd,<-jf]at HF;rw[<-Qd]at HR;clear Qd jf;go_wp2_with fail;refine HF.mono ?_;rintro e w1 ⟨rfl,b1⟩;have Hg:=kA (zad HB b1);clear b1 HF
   cases fb with
   | true=>
    go_wp2;go_ret;exact⟨by rw[HR.out];rfl,Hg⟩
   | false=>
    obtain⟨hl,c0,hg⟩:=D5.out w1 y Hg HY;go_wp2;go_roundw
    case rel=>exact⟨y,rfl,rfl,by rw[HR.out];rfl,Hg⟩
    case measure=>
     show _<abM L (.int .i64 y);have hlt:∀o,zak L y=o->(match (Value.bool o.isSome) with | .bool true=>abM L (.int .i64 (zjy o)) | _=>0)<abM L (.int .i64 y):=λo ho=>by
      cases o with
      | none=>show 0<_;unfold abM;omega
      | some y2=>
       show abM L (.int .i64 y2)<_;unfold abM;show (abv L y2).length+1<(abv L y).length+1;rw[za0 HW ho,length_cons];omega
     exact hlt _ rfl
theorem ztH(c x:Int):zeg L [c] x=decide (c∈abv L x):=by
 unfold zeg;rw[Bool.eq_iff_iff,any_eq_true,decide_eq_true_eq];constructor
 ·rintro⟨a,ha,e⟩;have:a=c:=by simpa using e
  rw[<-this];exact ha
 ·intro hc;exact⟨c,hc,by simp⟩
theorem zkf(h:LF w g L gp gc bl cp)(hW:WF L){c p:Int}(hc:Rg c)(hp:Rg p):
  Calls prog 113 #[.pointer (some ⟨g,0,none⟩),.int .i64 c,.int .i64 p] w λe w'=>e= .returned (.bool (decide (c∈abv L p)))/\Bw w w':=by
 have c1:=h.c1;have hg:=h.blk.lt;obtain⟨a,cap,hv,hr⟩:=h.rowOf c;have hl:(Instr.lookup 140 (.map (some gc)) (.int .i64 c) false).run prog w= .ok (cV (chO L bl cp c)) w:=h.chd.get hc;rw[hv]at hl
 have HH:Hid (Calls prog 181 #[.pointer (some ⟨g,0,none⟩),.int .i64 p,.slice (some ⟨w.heap.size,0,none⟩) 1 1] (w.alloc (.cells #[.int .i64 c] 81)) λe w'=>e= .returned (.bool (decide (c∈abv L p)))/\Bw w w'):=kA (by
  have Hl:Bw w (w.alloc (.cells #[.int .i64 c] 81)):=zaa _ _;have:=zni (cap:=1) (h.keep Hl) hW hp (zw0 w 81 [c] (by simp)) (by simp) (by simp);rw[ztH]at this
  exact this.mono λe w' q=>⟨q.1,zad Hl q.2⟩)
 have Hr:Hid ((chF L c).length=0->decide (c∈abv L p)=false):=kA (λe=>decide_eq_false (λk=>zw1 hW k (eq_nil_of_length_eq_zero e)));obtain⟨n,Ka⟩:∃n,n=(chF L c).length:=⟨_,rfl⟩;obtain⟨rb,zD⟩:∃rb,rb=decide (c∈abv L p):=⟨_,rfl⟩;rw[<-Ka]at hl Hr;rw[<-zD]at HH Hr ⊢;clear h hv hr Ka zD hW
 by_cases hn:n=0
 ·subst hn;obtain rfl:=Hr.out rfl;go_enter func113,ntmps113;go_wp2;go_ret;exact⟨rfl,Below.refl _ _⟩
 ·have q:(0:Int)<(n:Int):=om;go_enter func113,ntmps113;go_wp2_with fail;refine HH.mono ?_;rintro e w1 ⟨rfl,b1⟩;have HB:=kA b1;clear b1;go_wp2;go_ret;exact⟨rfl,HB⟩
end
section
variable {w w1 w2 w3 w4:World} {g gp gc:Nat} {L:FT} {bl cp:Int->Nat} {F:Nat->Prop} {c p:Int}
theorem zaZ{a b:World}{k k':Nat}(h:a.grownBy b (some k))(hk:k'<a.heap.size)(Hd:k'≠k):b.heap[k']? =a.heap[k']? :=h.block k' hk (λe=>Hd (by injection e))
theorem LF.cutEnd(h:LF w g L gp gc bl cp)(hF:∀b,F b↔zfR L g gp gc bl b)(hW:WF L)(hp:zak L c=some p)(xw:MF pK w1 gp (upm (zak L) c none))(KF:w.grownBy w1 (some gp))(Kd:Bw w1 w2)
  (yF:OwnD w3 0 (.slice (some ⟨bl p,0,none⟩) ((chF L p).length - 1) (cp p)) ((chF L p).length - 1) (ztA (chF L p) c))(KO:w2.grownBy w3 (some (bl p)))
  (jg:MF cK w4 gc (upm (chO L bl cp) p (if ztA (chF L p) c=[] then none else some (bl p,(chF L p).length - 1,cp p))))(cH:w3.grownBy w4 (some gc)):ChF LFB w w4 g F (zaI L c):=by
 have hm:c∈chF L p:=(zaA hW.1).2 hp;have Hd:chF L p≠[]:=λe=>by rw[e]at hm;cases hm
 have dE:=znf (zb7 hW.1 p) hm;have hs:=zka hW.1 hp;have ho:=h.off p Hd;have jh:=xw.lt;have jj:gp<w2.heap.size:=Nat.lt_of_lt_of_le jh Kd.size;have Sm:gp<w3.heap.size:=Nat.lt_of_lt_of_le jj KO.size;have Sn:bl p<w3.heap.size:=(yF.lt _ rfl).2;refine (h.step (L':=zaI L c) (bl':=bl) (cp':=cp) (p:=p) hF (zcS (zcS (znh (zcS (zg9 w _) KF (λb e=>Or.inl (.inl (by injection e with e;exact e.symm)))) Kd) KO (λb e=>Or.inl (.inr (.inr ⟨Hd,by injection e with e;exact e.symm⟩)))) cH (λb e=>Or.inl (.inr (.inl (by injection e with e;exact e.symm))))) ?_ ?_ ?_ (λ_=>Or.inl ⟨Hd,rfl⟩) (λx hx=>⟨zdv hW.1 hp hx,rfl,rfl⟩) (ziT h.rng c)).2
 ·refine MF.eq (m:=upm (zak L) c none) (xw.same ?_) (λx _=>by rw[za7];rfl);exact (zaZ cH Sm h.ne3).trans ((zaZ KO jj (λe=>ho.2.1 e.symm)).trans (Kd.block gp jh))
 ·refine MF.eq jg (λx _=> ?_);unfold upm
  by_cases q:x=p
  ·rw[if_pos q,q];unfold chO;rw[hs,dE]
  ·rw[if_neg q];unfold chO;rw[zdv hW.1 hp q]
 ·intro _;rw[hs,dE];exact yF.same (λb e=>zaZ cH (by injection e with e;rw[<-e];exact Sn) (by injection e with e;rw[<-e];exact ho.2.2))
theorem zeu(h0:LFB w g F L)(hW:WF L)(hL:L.length<=1000)(hc:Rg c):
  Calls prog 114 #[.pointer (some ⟨g,0,none⟩),.int .i64 c] w λe w'=>e= .returned (.bool (zak L c).isSome)/\ChF LFB w w' g F (zaI L c):=by
 have Sp:=h0;obtain⟨gp,gc,bl,cp,h,hF⟩:=h0;have c0:=h.c0;have hg:=h.blk.lt;have hl:(Instr.lookup 139 (.map (some gp)) (.int .i64 c) true).run prog w= .ok (.tuple #[.int .i64 (zjy (zak L c)),.bool (zak L c).isSome]) w:=h.par.look hc
 cases hp:zak L c with
 | none=>
  rw[hp]at hl
  have HE:Hid (ChF LFB w w g F (zaI L c)):=kA (by
   rw[zg6 hp]
   exact⟨F,Sp,zg9 w F,λ_ q=>Or.inl q⟩)
  clear Sp h hF hp hW;go_enter func114,ntmps114;go_wp2;go_ret;exact⟨rfl,HE⟩
 | some p=>
  rw[hp]at hl;replace hl:(Instr.lookup 139 (.map (some gp)) (.int .i64 c) true).run prog w= .ok (.tuple #[.int .i64 p,.bool true]) w:=hl;have ZP:=(zlR h.rng hp).2;have hm:c∈chF L p:=(zaA hW.1).2 hp;have Hd:chF L p≠[]:=λe=>by rw[e]at hm;cases hm
  have ho:=h.off p Hd;obtain⟨w1,zt,xw,KF⟩:=h.par.del hc;replace zt:∀ty,(Builtin.delete_ #[139,81] ty #[.map (some gp),.int .i64 c]).run prog w= .ok (.tuple #[]) w1:=zt;have k1:Blk w1 g 142 #[.map (some gp),.map (some gc)]:=h.blk.same (zaZ KF hg h.ne1);have d1:MF cK w1 gc (chO L bl cp):=h.chd.same (zaZ KF h.chd.lt (λe=>h.ne3 e.symm));have r1:OwnD w1 0 (.slice (some ⟨bl p,0,none⟩) (chF L p).length (cp p)) (chF L p).length (chF L p):=(h.row p Hd).same (λb e=>zaZ KF (by injection e with e;rw[<-e];exact ((h.row p Hd).lt _ rfl).2) (by injection e with e;rw[<-e];exact ho.2.1));have cJ:(Instr.lookup 140 (.map (some gc)) (.int .i64 p) false).run prog w1= .ok (.slice (some ⟨bl p,0,none⟩) (chF L p).length (cp p)) w1:=by
   have:=d1.get ZP;unfold chO at this;rw[if_neg Hd]at this;exact this
  have c11:w1.cell? ⟨g,1,none⟩=some (.map (some gc)):=k1.cell 1;have mE:=k1.lt;have dE:=zeq L p;have hlt:=zq4 (zb7 hW.1 p) hm
  have Dk:Hid (Calls prog 182 #[.slice (some ⟨bl p,0,none⟩) (chF L p).length (cp p),.int .i64 c] w1 λe w2=>e= .returned (.tuple #[.int .i64 (zhG (chF L p) c:Nat),.bool true])/\Bw w1 w2):=kA (by
   obtain⟨a,cap,e,hr⟩:=r1.row;injection e with e1 _ e3;subst e1 e3;have:=zet (cap:=cp p) hr om (zyM (zb7 hW.1 p)) c
   rwa [decide_eq_true hm]at this)
  have jk:Hid (∀w2,Bw w1 w2->Calls prog 183 #[.slice (some ⟨bl p,0,none⟩) (chF L p).length (cp p),.int .i64 (zhG (chF L p) c:Nat),.int .i64 ((zhG (chF L p) c:Nat)+1)] w2 λe w3=>e= .returned (.slice (some ⟨bl p,0,none⟩) ((chF L p).length - 1) (cp p))/\w3.cell? ⟨g,1,none⟩=some (.map (some gc))/\g<w3.heap.size/\
    ∃w4,(if (chF L p).length - 1=0 then (∀ty,(Builtin.delete_ #[140,81] ty #[.map (some gc),.int .i64 p]).run prog w3= .ok (.tuple #[]) w4) else (Instr.mapUpdate 140 (.map (some gc)) (.int .i64 p) (.slice (some ⟨bl p,0,none⟩) ((chF L p).length - 1) (cp p))).run prog w3= .ok () w4)/\ChF LFB w w4 g F (zaI L c)):=kA (λw2 Kd=>by
   refine (ztE (r1.keep Kd) hlt).mono ?_;rintro e w3 ⟨rfl,r3,KO⟩;have k3:Blk w3 g 142 #[.map (some gp),.map (some gc)]:=(k1.keep Kd).same (zaZ KO (k1.keep Kd).lt (λe=>ho.1 e.symm));have d3:MF cK w3 gc (chO L bl cp):=(d1.keep Kd).same (zaZ KO (d1.keep Kd).lt (λe=>ho.2.2 e.symm));refine⟨rfl,k3.cell 1,k3.lt,?_⟩;have hcut:=znf (zb7 hW.1 p) hm
   by_cases z:(chF L p).length - 1=0
   ·obtain⟨w4,Sq,jg,cH⟩:=d3.del ZP;refine⟨w4,by rw[if_pos z];exact Sq,h.cutEnd hF hW hp xw KF Kd r3 KO ?_ cH⟩;rw[if_pos (eq_nil_of_length_eq_zero om)];exact jg
   ·obtain⟨w4,Sq,jg,cH⟩:=d3.put ZP (bl p,(chF L p).length - 1,cp p) (L.map Prod.snd) (λy hy=>by
     unfold upm at hy;have jl:chF L y≠[]:=by
      by_cases q:y=p
      ·rw[q];exact Hd
      ·rw[if_neg q]at hy;unfold chO at hy;intro e;rw[if_pos e]at hy
       cases hy
     obtain⟨z,hz⟩:=exists_mem_of_ne_nil _ jl
     exact mem_map.2 ⟨_,zbp ((zaA hW.1).1 hz),rfl⟩) (by rw[length_map];omega)
    refine⟨w4,by rw[if_neg z];exact Sq,h.cutEnd hF hW hp xw KF Kd r3 KO ?_ cH⟩;rw[if_neg (λe=>z (by rw[<-hcut,e];rfl))]
    exact jg)
  obtain⟨n,hn⟩:∃n,n=(chF L p).length:=⟨_,rfl⟩;obtain⟨i,hi⟩:∃i,i=zhG (chF L p) c:=⟨_,rfl⟩;obtain⟨L',DG⟩:∃L',L'=zaI L c:=⟨_,rfl⟩;obtain⟨b,hb⟩:∃b,b=bl p:=⟨_,rfl⟩;obtain⟨cc,dR⟩:∃cc,cc=cp p:=⟨_,rfl⟩;rw[<-hn,<-hb,<-dR]at cJ Dk jk;rw[<-hi]at Dk jk hlt;rw[<-hn]at hlt dE;rw[<-DG]at jk ⊢;clear Sp h hF hp hW hm Hd ho xw KF k1 d1 r1 hn hi DG hb dR ZP hc;go_enter func114,ntmps114;go_wp2_with (at_builtin;refine za9 rfl (.tmp 24) (.tmp 25) 139 81 rfl _ _ rfl rfl (zt _) ?_);refine Dk.mono ?_;rintro e w2 ⟨rfl,b2⟩;have HD:=kA (jk w2 b2);clear b2 Dk jk;have hw:IntKind.i64.wrap ((i:Int)+1)=(i:Int)+1:=by rw[IntKind.wrap_i64];omega
  go_wp2_with fail;refine HD.mono ?_;rintro e w3 ⟨rfl,c13,KO,w4,Hf,Hi⟩;have H9:=kA Hi;clear Hi HD
  by_cases z:n - 1=0
  ·rw[if_pos z]at Hf;rw[z];go_wp2_with (at_builtin;refine za9 rfl (.tmp 49) (.tmp 50) 140 81 rfl _ _ rfl rfl (Hf _) ?_);go_ret;exact⟨rfl,H9⟩
  ·rw[if_neg z]at Hf;obtain⟨m,hm⟩:∃m,m=n - 1:=⟨_,rfl⟩;rw[<-hm]at z Hf ⊢;have z1:¬((m:Int)=0):=om;clear hm;go_wp2;go_ret;exact⟨rfl,H9⟩
theorem LF.hangEnd(h:LF w g L gp gc bl cp)(hF:∀b,F b↔zfR L g gp gc bl b)(hW:WF L)(hL:L.length<=1000)(D4:zak L c=none)(hc:Rg c)(hp:Rg p)(Hv:Bw w w1){b cap:Nat}
  (dy:OwnD w2 0 (.slice (some ⟨b,0,none⟩) ((chF L p).length+1) cap) ((chF L p).length+1) (zvq (chF L p) c))(Ko:w1.grownBy w2 (cV (chO L bl cp p)).ownBlock)(hb:(cV (chO L bl cp p)).ownBlock=some b∨w.heap.size<=b):
  ∃w3 w4,(Instr.mapUpdate 140 (.map (some gc)) (.int .i64 p) (.slice (some ⟨b,0,none⟩) ((chF L p).length+1) cap)).run prog w2= .ok () w3/\(Instr.mapUpdate 139 (.map (some gp)) (.int .i64 c) (.int .i64 p)).run prog w3= .ok () w4/\ChF LFB w w4 g F (setF L c p)/\w2.cell? ⟨g,1,none⟩=some (.map (some gc))/\w3.cell? ⟨g,0,none⟩=some (.map (some gp))/\w3.cell? ⟨g,1,none⟩=some (.map (some gc))/\g<w2.heap.size/\g<w3.heap.size:=by
 have h1:=h.keep Hv;have hs:=zlO (p:=p) hW.1 D4;have TX:∀x,x≠p->chF (setF L c p) x=chF L x:=λx hx=>zkb hW.1 D4 hx;have Hc:∀k,(cV (chO L bl cp p)).ownBlock=some k->chF L p≠[]/\k=bl p:=λk e=>by
  unfold chO at e
  by_cases q:chF L p=[]
  ·rw[if_pos q]at e;cases e
  ·rw[if_neg q]at e;injection e with e;exact⟨q,e.symm⟩
 have hst:∀k,k<w1.heap.size->(chF L p≠[]->k≠bl p)->w2.heap[k]? =w1.heap[k]? :=λk hk Hd=>Ko.block k hk (λe=>by
  obtain⟨q1,q2⟩:=Hc k e.symm
  exact Hd q1 q2)
 have k2:Blk w2 g 142 #[.map (some gp),.map (some gc)]:=h1.blk.same (hst g h1.blk.lt (λq e=>(h.off p q).1 e.symm));have d2:MF cK w2 gc (chO L bl cp):=h1.chd.same (hst gc h1.chd.lt (λq e=>(h.off p q).2.2 e.symm));have m2:MF pK w2 gp (zak L):=h1.par.same (hst gp h1.par.lt (λq e=>(h.off p q).2.1 e.symm));have ZK:∀y,chF L y≠[]->y∈L.map Prod.snd:=λy hy=>by
  obtain⟨z,hz⟩:=exists_mem_of_ne_nil _ hy;exact mem_map.2 ⟨_,zbp ((zaA hW.1).1 hz),rfl⟩
 obtain⟨w3,yF,d3,KO⟩:=d2.put hp (b,(chF L p).length+1,cap) (p::L.map Prod.snd) (λy hy=>by
  unfold upm at hy
  by_cases q:y=p
  ·rw[q];exact mem_cons_self
  ·rw[if_neg q]at hy;refine mem_cons_of_mem _ (ZK y (λe=> ?_));unfold chO at hy;rw[if_pos e]at hy
   cases hy) (by rw[length_cons,length_map];omega)
 have m3:MF pK w3 gp (zak L):=m2.same (zaZ KO m2.lt h.ne3);have k3:Blk w3 g 142 #[.map (some gp),.map (some gc)]:=k2.same (zaZ KO k2.lt h.ne2)
 obtain⟨w4,jm,m4,cH⟩:=m3.put hc p (c::L.map Prod.fst) (λy hy=>by
  unfold upm at hy
  by_cases q:y=c
  ·rw[q];exact mem_cons_self
  ·rw[if_neg q]at hy;obtain⟨z,hz⟩:=Option.isSome_iff_exists.1 hy
   exact mem_cons_of_mem _ (mem_map.2 ⟨_,zbp hz,rfl⟩)) (by rw[length_cons,length_map];omega)
 have Hu:b≠g/\b≠gp/\b≠gc:=by
  rcases hb with q | q
  ·obtain⟨q1,q2⟩:=Hc b q;rw[q2];exact h.off p q1
  ·have:=h.blk.lt;have:=h.par.lt;have:=h.chd.lt;exact⟨om,om,om⟩
 refine⟨w3,w4,yF,jm,?_,k2.cell 1,k3.cell 0,k3.cell 1,k2.lt,k3.lt⟩;refine (h.step (L':=setF L c p) (bl':=λx=>if x=p then b else bl x) (cp':=λx=>if x=p then cap else cp x) (p:=p) hF (zcS (zcS (zcS (znh (zg9 w _) Hv) Ko (λk e=>Or.inl (.inr (.inr (Hc k e))))) KO (λk e=>Or.inl (.inr (.inl (by injection e with e;exact e.symm))))) cH (λk e=>Or.inl (.inl (by injection e with e;exact e.symm)))) ?_ ?_ ?_ ?_ (λx hx=>⟨TX x hx,if_neg hx,if_neg hx⟩) (zwZ h.rng hc hp)).2
 ·exact MF.eq m4 (λx _=>by rw[zbZ];rfl)
 ·refine MF.eq (d3.same (zaZ cH d3.lt (λe=>h.ne3 e.symm))) (λx _=> ?_);unfold upm chO
  by_cases q:x=p
  ·subst q;rw[hs,ziS,if_neg (λe=>by have:=ziS (chF L x) c;rw[e]at this;simp at this),if_pos rfl];simp
  ·simp[TX x q,q]
 ·intro _;rw[hs,ziS,if_pos rfl,if_pos rfl];have KL:b<w3.heap.size:=Nat.lt_of_lt_of_le (dy.lt _ rfl).2 KO.size
  exact dy.same (λk e=>by
   injection e with e;have e:b=k:=e;subst e
   exact (zaZ cH KL Hu.2.1).trans (zaZ KO (dy.lt _ rfl).2 Hu.2.2))
 ·intro _;rw[if_pos rfl];rcases hb with q | q
  ·exact .inl (Hc b q)
  ·exact .inr q
theorem zrd(h0:LFB w g F L)(hW:WF L)(hL:L.length<=1000)(hc:Rg c)(hp:Rg p)(D4:zak L c=none):
  Calls prog 115 #[.pointer (some ⟨g,0,none⟩),.int .i64 c,.int .i64 p] w λe w'=>e= .returned (.tuple #[])/\ChF LFB w w' g F (setF L c p):=by
 obtain⟨gp,gc,bl,cp,h,hF⟩:=h0;have dE:=zeq L p;have hle:=zq3 (chF L p) c;have D5:Hid (∀u,Bw w u->u.cell? ⟨g,1,none⟩=some (.map (some gc))/\g<u.heap.size):=kA (λu q=>⟨(h.keep q).c1,(h.keep q).blk.lt⟩);have hl:(Instr.lookup 140 (.map (some gc)) (.int .i64 p) false).run prog w= .ok (cV (chO L bl cp p)) w:=h.chd.get hp
 have Dk:Hid (Calls prog 182 #[cV (chO L bl cp p),.int .i64 c] w λe w2=>∃fb,e= .returned (.tuple #[.int .i64 (zhG (chF L p) c:Nat),.bool fb])/\Bw w w2):=kA (by
  obtain⟨a,cap,e,hr⟩:=h.rowOf p;rw[e]
  exact (zet (cap:=cap) hr om (zyM (zb7 hW.1 p)) c).mono λ_ _ q=>⟨_,q⟩)
 have Cj:Hid (∀u,Bw w u->Calls prog 184 #[cV (chO L bl cp p),.int .i64 (zhG (chF L p) c:Nat),.slice (some ⟨u.heap.size,0,none⟩) 1 1] (u.alloc (.cells #[.int .i64 c] 81)) λe w2=>∃b cap,e= .returned (.slice (some ⟨b,0,none⟩) ((chF L p).length+1) cap)/\∃w3 w4,(Instr.mapUpdate 140 (.map (some gc)) (.int .i64 p) (.slice (some ⟨b,0,none⟩) ((chF L p).length+1) cap)).run prog w2= .ok () w3/\(Instr.mapUpdate 139 (.map (some gp)) (.int .i64 c) (.int .i64 p)).run prog w3= .ok () w4/\ChF LFB w w4 g F (setF L c p)/\w2.cell? ⟨g,1,none⟩=some (.map (some gc))/\w3.cell? ⟨g,0,none⟩=some (.map (some gp))/\w3.cell? ⟨g,1,none⟩=some (.map (some gc))/\g<w2.heap.size/\g<w3.heap.size):=kA (λu q=>by
  have Hl:Bw u (u.alloc (.cells #[.int .i64 c] 81)):=zaa _ _;have Hv:Bw w (u.alloc (.cells #[.int .i64 c] 81)):=zad q Hl;have hf:=(h.keep Hv).fam p;have mG:=(h.keep q).fam p;refine (ztG (i:=zhG (chF L p) c) hf (zero_le _) (Blk.new u _ _) (λe=>by have:=(mG.lt _ e).2;omega) hle om).mono ?_;rintro e w2 ⟨b,cap,rfl,r2,g2,hb⟩
  refine⟨b,cap,rfl,h.hangEnd hF hW hL D4 hc hp Hv r2 g2 (hb.imp_right (λk=>Nat.le_trans Hv.size k))⟩)
 obtain⟨a0,cap0,hv,Cy⟩:=h.rowOf p;obtain⟨n,hn⟩:∃n,n=(chF L p).length:=⟨_,rfl⟩;obtain⟨i,hi⟩:∃i,i=zhG (chF L p) c:=⟨_,rfl⟩;obtain⟨L',DG⟩:∃L',L'=setF L c p:=⟨_,rfl⟩;rw[hv]at hl Dk Cj;rw[<-hn]at hl Dk Cj;rw[<-hi]at Dk Cj;rw[<-DG]at Cj ⊢;obtain⟨c1,hg⟩:=D5.out w (Below.refl _ _);clear h hF hW D4 hv Cy hn hi DG dE hle hc hp;go_enter func115,ntmps115;go_wp2_with fail;refine Dk.mono ?_;rintro e w1 ⟨fb,rfl,b1⟩;have HB:=kA b1;obtain⟨c11,KF⟩:=D5.out w1 b1;clear b1 c1 hg hl Dk;go_wp2
 go_region_held3 (λw'=>w'.cell? ⟨g,1,none⟩=some (.map (some gc))) (first | exact c11 | go_keep)
  (first | (go_at_call 184;refine (Cj _ (zad HB (za5 (Below.refl _ _)))).mono ?_;rintro e w2 ⟨b,cap,rfl,w3,w4,yF,jm,Hi,c2,c3,c4,z2,z3⟩;have H9:=kA Hi;clear Hi))
 go_wp2;go_end0;exact⟨rfl,H9⟩
end
section
variable {w:World} {g:Nat} {L:FT} {F:Nat->Prop}
theorem znj(h:LFB w g F L)(hW:WF L)(hL:L.length<=1000){c p:Int}(hc:Rg c)(hp:Rg p):
  Calls prog 63 #[.pointer (some ⟨g,0,none⟩),.int .i64 c,.int .i64 p] w λe w'=>e= .returned (.int .i64 (zbr L c p))/\ChF LFB w w' g F (zbD L c p):=by
 have Hk:Hid (∀u,Bw w u->ChF LFB w u g F L):=kA (λu q=>⟨F,h.keep q,⟨q.os,q.tape,q.output,q.size,λb hl _=>q.block b hl⟩,λ_ k=>Or.inl k⟩)
 by_cases D4:c=p
 ·have HE:Hid (zbr L c p=8/\zbD L c p=L):=kA (by
   have e:zbr L c p=8:=by unfold zbr;rw[if_pos (.inr D4)]
   exact⟨e,by unfold zbD;rw[e,if_neg om]⟩)
  rw[HE.1,HE.2];subst D4;clear h hW hc hp;go_enter func63,ntmps63;go_wp2;go_ret;exact⟨rfl,Hk _ (Below.refl _ _)⟩
 ·have mH:(c==p)=false:=by simpa using D4
  have HI:Hid (Calls prog 113 #[.pointer (some ⟨g,0,none⟩),.int .i64 c,.int .i64 p] w λe w'=>e= .returned (.bool (decide (c∈abv L p)))/\Bw w w'):=kA (by
   obtain⟨gp,gc,bl,cp,h1,_⟩:=h
   exact zkf h1 hW hc hp)
  by_cases hab:c∈abv L p
  ·have HE:Hid (zbr L c p=8/\zbD L c p=L):=kA (by
    have e:zbr L c p=8:=by unfold zbr;rw[if_pos (.inl hab)]
    exact⟨e,by unfold zbD;rw[e,if_neg om]⟩)
   rw[HE.1,HE.2];rw[decide_eq_true hab]at HI;clear h hW hc hp hab;go_enter func63,ntmps63;go_wp2_with fail;refine HI.mono ?_;rintro e w1 ⟨rfl,b1⟩;have HS:=kA (Hk _ b1);clear b1 HI Hk;go_wp2;go_ret;exact⟨rfl,HS⟩
  ·have HE:Hid (zbr L c p=0/\zbD L c p=setF L c p):=kA (by
    have e:zbr L c p=0:=by unfold zbr;rw[if_neg (λk=>k.elim hab D4)]
    exact⟨e,by unfold zbD;rw[e,if_pos rfl]⟩)
   rw[HE.1,HE.2];rw[decide_eq_false hab]at HI
   have xe:Hid (∀u,Bw w u->Calls prog 114 #[.pointer (some ⟨g,0,none⟩),.int .i64 c] u λe w2=>∃fb,e= .returned (.bool fb)/\Calls prog 115 #[.pointer (some ⟨g,0,none⟩),.int .i64 c,.int .i64 p] w2 λe w3=>e= .returned (.tuple #[])/\ChF LFB w w3 g F (setF L c p)):=kA (λu q=>by
    refine (zeu (h.keep q) hW hL hc).mono ?_;rintro e w2 ⟨rfl,F1,k1,k2,k3⟩;refine⟨_,rfl,(zrd k1 (hW.free c) (Nat.le_trans (zeS L c) hL) hc hp (by rw[za7,if_pos rfl])).mono ?_⟩;rintro e w3 ⟨rfl,k4⟩;refine⟨rfl,?_⟩;have e1:setF (zaI L c) c p=setF L c p:=by unfold setF;rw[zoG]
    rw[e1]at k4
    exact (ChF.join k2 k3 k4).of q)
   clear h hW hc hp hab Hk;go_enter func63,ntmps63;go_wp2_with fail;refine HI.mono ?_;rintro e w1 ⟨rfl,b1⟩;have HL:=kA (xe _ b1);clear b1 HI xe;go_wp2_with fail;refine HL.mono ?_;rintro e w2 ⟨fb,rfl,hh⟩;have HH:=kA hh;clear hh HL;go_wp2_with fail;refine HH.mono ?_;rintro e w3 ⟨rfl,Hi⟩;have HC:=kA Hi;clear Hi HH;go_wp2;go_ret;exact⟨rfl,HC⟩
theorem zkg(h:LFB w g F L)(hW:WF L)(hL:L.length<=1000){a:Option Addr}{n cap:Nat}{xs:List Int}(hn:n<=1000)(hr:Row w a n xs)(ha:Aw F a n)(hx:Rgs xs):
  Calls prog 95 #[.pointer (some ⟨g,0,none⟩),.slice a n cap] w λe w'=>e= .returned (.int .i64 (frN L xs:Nat))/\ChF LFB w w' g F (zax L xs):=by
 have Hk:Hid (ChF LFB w w g F (zax L (xs.take 0))):=kA ⟨F,h,zg9 w F,λ_ k=>Or.inl k⟩;have hJ:Hid (∀u,Fr w u F->Row u a n xs):=kA (λu q=>zbI hr ha q);have Kw:=kA hr.1
 have xe:Hid (∀ (u:World) (j:Nat) (z:Int),xs[j]? =some z->ChF LFB w u g F (zax L (xs.take j))->Calls prog 114 #[.pointer (some ⟨g,0,none⟩),.int .i64 z] u λe w2=>e= .returned (.bool (zak (zax L (xs.take j)) z).isSome)/\ChF LFB w w2 g F (zax L (xs.take (j+1)))):=kA (λu j z hz q=>by
  obtain⟨F1,k1,k2,k3⟩:=q;refine (zeu k1 (WF.frees _ hW) (Nat.le_trans (zdQ _ _) hL) (hx z (mem_of_getElem? hz))).mono ?_;rintro e w2 ⟨rfl,k4⟩;refine⟨rfl,?_⟩;rw[zoA hz]
  exact ChF.join k2 k3 k4)
 clear h hW hr ha hx;go_enter func95,ntmps95;go_wp2
 go_loopw [5,7,12] (λv5 _ i wr=>∃j:Nat,j<=n/\i= .int .i64 j/\v5= .int .i64 (frN L (xs.take j):Nat)/\ChF LFB w wr g F (zax L (xs.take j))) (λ_ _ i _=>n - (ivl i).toNat)
 case atStart=>exact⟨0,om,rfl,rfl,Hk⟩
 case round=>
  clear Hk;obtain⟨j,hj,rfl,rfl,Hi⟩:=hrel;have H9:=kA Hi
  have HR:Hid (Row wr a n xs):=kA (by
   obtain⟨_,_,q,_⟩:=Hi
   exact hJ wr q)
  have Vj:=zvk (xs.take j) L;rw[length_take]at Vj;obtain⟨cn,XT⟩:∃cn,cn=frN L (xs.take j):=⟨_,rfl⟩;rw[<-XT]at Vj ⊢;have cN:=kA XT;clear Hi XT
  by_cases hlt:j<n
  ·obtain⟨b,off,z,rfl,hz,cz⟩:=zci HR hlt;have Ho:=World.block_lt_of_cell? _ _ cz;have Dz:=kA (zm7 (L:=L) hz);rw[<-cN.out]at Dz;have HF:=kA (xe wr j z hz H9);have j0:(0:Int)<=(j:Int):=om;have j1:(j:Int)<(n:Int):=om;obtain⟨hb,yK⟩:∃hb,hb=(zak (zax L (xs.take j)) z).isSome:=⟨_,rfl⟩;rw[<-yK]at HF Dz;clear hz yK;go_wp2_with fail;refine HF.mono ?_;rintro e w2 ⟨rfl,Hi⟩;have KT:=kA Hi;clear Hi HF
   cases hb with
   | false=>
    go_wp2;go_roundw
    case rel=>exact⟨j+1,om,by go_num,by rw[Dz.out];rfl,KT⟩
    case measure=>simp[ivl] <;> omega
   | true=>
    go_wp2;go_roundw
    case rel=>exact⟨j+1,om,by go_num,by rw[Dz.out];go_num,KT⟩
    case measure=>simp[ivl] <;> omega
  ·obtain rfl:j=n:=om;have e0:xs.take j=xs:=take_of_length_le (by rw[Kw.out];exact Nat.le_refl _);rw[e0]at H9 cN;have j1:¬(j:Int)<(j:Int):=om;clear e0;go_wp2;go_ret;exact⟨by rw[cN.out];rfl,H9⟩
def dpm(L:FT)(C:List Int)(j:Nat)(z:Int):Option Int:=if z∈C.take j then none else zak L z
theorem ztI{C:List Int}{j:Nat}(h:C[j]? =some y)(z:Int):dpm L C (j+1) z=upm (dpm L C j) y none z:=by
 unfold dpm upm;rw[take_add_one,h]
 by_cases q:z=y
 ·rw[if_pos q,if_pos (by rw[q];simp)]
 ·rw[if_neg q];show _=if z∈C.take j then none else zak L z
  by_cases k:z∈C.take j
  ·rw[if_pos k,if_pos (mem_append_left _ k)]
  ·rw[if_neg k,if_neg (λm=>(mem_append.1 m).elim k (λm=>q (by simpa using m)))]
theorem zre(h:LFB w g F L)(hW:WF L)(hL:L.length<=1000){x:Int}(hx:Rg x):
  Calls prog 66 #[.pointer (some ⟨g,0,none⟩),.int .i64 x] w λe w'=>∃v,e= .returned v/\LDr F w w' (chF L x) v/\ChF LFB w w' g F (zcJ L x):=by
 have xe:=kA (zeu h hW hL hx);have HW:=kA hW;obtain⟨C,hC⟩:∃C,C=chF L x:=⟨_,rfl⟩;obtain⟨L2,Sr⟩:∃L2,L2=zcJ L x:=⟨_,rfl⟩;rw[<-hC,<-Sr];have TY:=kA hC;have zE:=kA Sr;clear h hW hC Sr;go_enter func66,ntmps66;go_wp2_with fail;refine xe.mono ?_;rintro e w1 ⟨rfl,F1,⟨gp,gc,bl,cp,h1,xd⟩,jo,XU⟩;clear xe;have c1:=h1.c1;have hg:=h1.blk.lt;have Ck:=zkc HW x;obtain⟨a,cap,hv,hr⟩:=h1.rowOf x;have hl:(Instr.lookup 140 (.map (some gc)) (.int .i64 x) false).run prog w1= .ok (cV (chO (zaI L x) bl cp x)) w1:=h1.chd.get hx;obtain⟨w2,dB,xx,Ko⟩:=h1.chd.del hx;replace dB:∀ty,(Builtin.delete_ #[140,81] ty #[.map (some gc),.int .i64 x]).run prog w1= .ok (.tuple #[]) w2:=dB;have YA:chF (zaI L x) x≠[]->a=some ⟨bl x,0,none⟩:=λq=>by
  unfold chO at hv;rw[if_neg q]at hv;injection hv with e _ _;exact e.symm
 rw[Ck]at hv hr YA
 have hJ:Hid (∀u,w2.grownBy u (some gp)->Row u a (chF L x).length (chF L x)):=kA (λu q=>by
  by_cases e:chF L x=[]
  ·refine⟨rfl,by rw[e];simp,.inl (by rw[e];rfl)⟩
  ·have e2:=YA e;have Hd:chF (zaI L x) x≠[]:=by rw[Ck];exact e
   have ho:=h1.off x Hd;have hlt:=((h1.row x Hd).lt _ rfl).2;have Cd:=zaZ Ko hlt ho.2.2;have xE:=zaZ q (Nat.lt_of_lt_of_le hlt Ko.size) ho.2.1;refine⟨hr.1,hr.2.1,hr.2.2.imp id (λ⟨b,off,e3,hc⟩=>⟨b,off,e3,λi hi=> ?_⟩)⟩;rw[e2]at e3;injection e3 with e3;injection e3 with e4 e5 _;rw[<-hc i hi];simp only[World.cell?]
   rw[<-e4,xE,Cd])
 have zF:MF pK w2 gp (dpm (zaI L x) (chF L x) 0):=(h1.par.same (zaZ Ko h1.par.lt h1.ne3)).eq (λz _=>by unfold dpm;rw[take_zero,if_neg (by simp)]);have Cl:=kA zF
 have dS:Hid (∀ (u:World) (j:Nat) (y:Int),(chF L x)[j]? =some y->MF pK u gp (dpm (zaI L x) (chF L x) j)->∃u',(∀ty,(Builtin.delete_ #[139,81] ty #[.map (some gp),.int .i64 y]).run prog u= .ok (.tuple #[]) u')/\MF pK u' gp (dpm (zaI L x) (chF L x) (j+1))/\u.grownBy u' (some gp)):=kA (λu j y hy hm=>by
  have mI:Rg y:=zra (zbM HW.1 x) h1.rng (x:=x) (by rw[Ck];exact mem_of_getElem? hy);obtain⟨u',k1,k2,k3⟩:=hm.del mI
  exact⟨u',k1,k2.eq (λz _=>ztI hy z),k3⟩)
 have jp:Hid (∀u,w2.grownBy u (some gp)->u.cell? ⟨g,0,none⟩=some (.map (some gp))/\g<u.heap.size):=kA (λu q=>by
  have k2:Blk w2 g 142 #[.map (some gp),.map (some gc)]:=h1.blk.same (zaZ Ko hg h1.ne2);have k3:=k2.same (zaZ q k2.lt h1.ne1)
  exact⟨k3.cell 0,k3.lt⟩)
 have Kl:Hid (∀u,w2.grownBy u (some gp)->MF pK u gp (dpm (zaI L x) (chF L x) (chF L x).length)->LDr F w u (chF L x) (.slice a (chF L x).length cap)/\ChF LFB w u g F (zcJ L x)):=kA (λu q hm=>by
  constructor
  ·refine⟨a,cap,rfl,hJ u q,?_⟩
   by_cases e:chF L x=[]
   ·exact .inl (by rw[e];rfl)
   ·refine .inr (λad e2=> ?_);rw[YA e]at e2;injection e2 with e2;rw[<-e2];exact XU _ ((xd _).2 (.inr (.inr (.inr ⟨x,by rw[Ck];exact e,rfl⟩))))
  ·refine ChF.join jo XU (h1.step (L':=zcJ L x) (bl':=bl) (cp':=cp) (p:=x) xd (zcS (zcS (zg9 w1 _) Ko (λb e=>Or.inl (.inr (.inl (by injection e with e;exact e.symm))))) q (λb e=>Or.inl (.inl (by injection e with e;exact e.symm)))) ?_ ?_ (λk=>absurd (zdW HW x) k) (λk=>absurd (zdW HW x) k) (λy hy=>⟨zeU HW hy,rfl,rfl⟩) (zkd _ h1.rng)).2
   ·refine hm.eq (λz _=> ?_);unfold zcJ dpm;rw[zdf,take_length]
   ·refine MF.eq (xx.same (zaZ q xx.lt (λe=>h1.ne3 e.symm))) (λz _=> ?_);unfold upm chO
    by_cases k:z=x
    ·rw[if_pos k,k,zdW HW x,if_pos rfl]
    ·rw[if_neg k,zeU HW k])
 rw[hv]at hl;have dE:=zeq L x;obtain⟨n,hn⟩:∃n,n=C.length:=⟨_,rfl⟩;obtain⟨L1,TZ⟩:∃L1,L1=zaI L x:=⟨_,rfl⟩;rw[<-TY.out]at hl hJ Cl dS Kl dE;rw[<-hn]at hl hJ Kl dE;rw[<-TZ]at Cl dS Kl;rw[<-zE.out]at Kl;clear h1 xd jo XU hr YA xx Ko zF Ck TZ hn hx hv HW TY zE;go_wp2_with (at_builtin;refine za9 rfl (.tmp 22) (.tmp 23) 140 81 rfl _ _ rfl rfl (dB _) ?_);clear hl dB c1 hg
 go_loopw [7,26] (λ_ i wr=>∃j:Nat,j<=n/\i= .int .i64 j/\MF pK wr gp (dpm L1 C j)/\w2.grownBy wr (some gp)) (λ_ i _=>n - (ivl i).toNat)
 case atStart=>exact⟨0,om,rfl,Cl.out,⟨rfl,rfl,rfl,Nat.le_refl _,λ_ _ _=>rfl⟩⟩
 case round=>
  clear Cl;obtain⟨j,hj,rfl,hm,Hh⟩:=hrel;have HM:=kA hm;have HG:=kA Hh;obtain⟨c0,hg⟩:=jp.out wr Hh;have HR:=kA (hJ wr Hh);clear hm Hh
  by_cases hlt:j<n
  ·obtain⟨b,off,y,rfl,hy,cy⟩:=zci HR hlt;have Ho:=World.block_lt_of_cell? _ _ cy;obtain⟨w3,mJ,jq,KO⟩:=dS.out wr j y hy HM;have K3:=kA (And.intro jq (zaq HG KO));have j0:(0:Int)<=(j:Int):=om;have j1:(j:Int)<(n:Int):=om;clear hy jq KO;go_wp2_with (at_builtin;refine za9 rfl (.tmp 33) (.tmp 34) 139 81 rfl _ _ rfl rfl (mJ _) ?_);go_roundw
   case rel=>exact⟨j+1,om,by go_num,K3.1,K3.2⟩
   case measure=>simp[ivl] <;> omega
  ·obtain rfl:j=n:=om;have HE:=kA (Kl wr HG (by have:=HM.out;exact this));have j1:¬(j:Int)<(j:Int):=om;go_wp2;go_ret;exact⟨_,rfl,HE⟩
theorem zkh(w:World):
  Calls prog 26 #[] w λe w'=>∃g F,e= .returned (.pointer (some ⟨g,0,none⟩))/\LFB w' g F []/\(∀b,F b->w.heap.size<=b)/\Bw w w':=by
 have Xh:= @run_makeMap prog
 have HE:Hid (∃F,LFB (((w.alloc (.map #[] 0)).alloc (.map #[] 0)).alloc (.cells #[.map (some w.heap.size),.map (some (w.heap.size+1))] 142)) (w.heap.size+2) F []/\(∀b,F b->w.heap.size<=b)/\Bw w (((w.alloc (.map #[] 0)).alloc (.map #[] 0)).alloc (.cells #[.map (some w.heap.size),.map (some (w.heap.size+1))] 142))):=kA (by
  have s1:(w.alloc (.map #[] 0)).heap.size=w.heap.size+1:=by simp
  have s2:((w.alloc (.map #[] 0)).alloc (.map #[] 0)).heap.size=w.heap.size+2:=by simp
  have b1:Bw w (w.alloc (.map #[] 0)):=zaa _ _;have b2:Below (w.alloc (.map #[] 0)).heap.size (w.alloc (.map #[] 0)) ((w.alloc (.map #[] 0)).alloc (.map #[] 0)):=zaa _ _;have b3:Below ((w.alloc (.map #[] 0)).alloc (.map #[] 0)).heap.size ((w.alloc (.map #[] 0)).alloc (.map #[] 0)) (((w.alloc (.map #[] 0)).alloc (.map #[] 0)).alloc (.cells #[.map (some w.heap.size),.map (some (w.heap.size+1))] 142)):=zaa _ _;have m1:=((MF.new pK w).keep b2).keep b3;have m2:=(MF.new cK (w.alloc (.map #[] 0))).keep b3;rw[s1]at m2;have k:=Blk.new ((w.alloc (.map #[] 0)).alloc (.map #[] 0)) 142 #[.map (some w.heap.size),.map (some (w.heap.size+1))];rw[s2]at k;have YB:∀x,chF [] x=[]:=λx=>rfl;refine⟨zfR [] (w.heap.size+2) w.heap.size (w.heap.size+1) (λ_=>0),⟨w.heap.size,w.heap.size+1,λ_=>0,λ_=>0,⟨k,m1,m2,λx hx=>absurd (YB x) hx,λx _ hx=>absurd (YB x) hx,om,om,om,λx hx=>absurd (YB x) hx,λp hp=>by cases hp⟩,λ_=>Iff.rfl⟩,?_,zad (zad b1 b2) b3⟩;rintro b (e | e | e | ⟨x,hx,_⟩)
  ·omega
  ·omega
  ·omega
  ·exact absurd (YB x) hx)
 go_enter func26,ntmps26;go_wp2;go_ret;obtain⟨F,h1,h2,h3⟩:=HE;exact⟨_,F,rfl,h1,h2,h3⟩
end
theorem ziV(h:WF L)(l:List Int):(zfO L l).Nodup:=zqL h (zbP l [] List.Pairwise.nil)
theorem ztJ(h:WF L)(l:List Int):(zfO L l).length<=l.length+L.length:=by
 have h1:=zwJ h (ns:=zbY l) (zbP l [] List.Pairwise.nil);have h2:=(za4 l).length_eq;unfold zfO;omega
theorem ztK{U:List Int}(h:U.Nodup){i:Nat}{u:Int}(hu:U[i]? =some u):u∉U.take i:=λhm=>by
 obtain⟨j,hj,e⟩:=mem_iff_getElem.1 hm;rw[length_take]at hj;rw[getElem_take]at e;obtain⟨hi,e2⟩:=List.getElem?_eq_some_iff.1 hu;have:=List.pairwise_iff_getElem.1 h j i om hi om;exact this (e.trans e2.symm)
def zfi(l:List Int):List Int:=Lib.compact (zbY l)
theorem zki(ns:List Int):Lib.compact ns=((range ns.length).filter (λi=>decide (i=0) || decide (ns.getD i 0≠ns.getD (i - 1) 0))).map (λi=>ns.getD i 0):=by
 unfold Lib.compact Lib.compactUpTo;have hg:∀i,i<ns.length->ns.toArray[i]! =ns.getD i 0:=λi hi=>by
  rw[getElem!_pos ns.toArray i (by simpa using hi)];simp[getD,hi]
 have h1:(range ns.length).filter (Lib.keeps ns.toArray)=(range ns.length).filter (λi=>decide (i=0) || decide (ns.getD i 0≠ns.getD (i - 1) 0)):=by
  refine filter_congr (λi hi=> ?_);rw[mem_range]at hi
  by_cases q:i=0
  ·rw[Lib.keeps_lt_one _ i om,decide_eq_true q];rfl
  ·have e1:=hg i hi;have e2:=hg (i - 1) om
   by_cases k:ns.getD i 0=ns.getD (i - 1) 0
   ·rw[Lib.keeps_neg om (by rw[e1,e2];exact k),decide_eq_false q,decide_eq_false (λc=>c k)];rfl
   ·rw[Lib.keeps_pos (by rw[e1,e2];exact k),decide_eq_true k,Bool.or_true]
 rw[h1];refine map_congr_left (λi hi=> ?_);exact hg i (mem_range.1 (mem_filter.1 hi).1)
theorem zrf:z∈Lib.compact ns↔z∈ns:=by
 rw[zki,mem_map];constructor
 ·rintro⟨i,hi,rfl⟩;exact zeR (mem_range.1 (mem_filter.1 hi).1)
 ·intro hz;obtain⟨i,hi,e⟩:=mem_iff_getElem.1 hz;obtain⟨j,hj,ej,qU⟩:=ziF (ns:=ns) i hi;refine⟨j,mem_filter.2 ⟨mem_range.2 hj,?_⟩,?_⟩
  ·rw[Bool.or_eq_true,decide_eq_true_eq,decide_eq_true_eq];exact qU
  ·rw[ej,getD,getElem?_eq_getElem hi];exact e
theorem zyN(h:ns.Pairwise (·<=·)):(Lib.compact ns).Pairwise (·<=·):=by
 rw[zki];refine List.pairwise_map.2 ((List.Pairwise.filter _ pairwise_lt_range).imp_of_mem (fun {a b} ha hb c=> ?_));exact zgS h om (mem_range.1 (mem_filter.1 hb).1)
theorem ziW(l:List Int):(zbY l).Pairwise (·<=·):=zbP l [] List.Pairwise.nil
def znk(L:FT)(l:List Int):List Int:=(zfi l).filter (λx=> !zeg L (zfi l) x)
theorem ztL{ms:List Int}(h:∀z,z∈ns↔z∈ms)(x:Int):zeg L ns x=zeg L ms x:=by
 unfold zeg;congr 1;funext a;rw[decide_eq_decide];exact h a
theorem zdw(L:FT)(l:List Int):zfO L l=(znk L l).flatMap (beh L):=by
 unfold zfO zvj znk zfi;rw[zlE];have h1:∀x,zeg L (Lib.compact (zbY l)) x=zeg L (zbY l) x:=λx=>ztL (λz=>zrf) x;rw[zki,filter_map,filter_filter,flatMap_map];congr 1;refine filter_congr (λi _=> ?_);rw[<-zki];show _=((λx=> !zeg L (Lib.compact (zbY l)) x) ((zbY l).getD i 0) && _);simp only[h1];unfold zwI zeg;rw[Bool.and_comm,not_any_eq_all_not]
theorem znl(l:List Int):(zfi l).length<=l.length:=by
 have h1:=Lib.compact_length_le (zbY l);have h2:=(za4 l).length_eq;unfold zfi;omega
theorem zb0{l:List Int} :z∈zfi l↔z∈l:=by
 unfold zfi;rw[zrf,(za4 l).mem_iff]
section
variable {w:World} {g gp gc:Nat} {L:FT} {bl cp:Int->Nat}
theorem zrg(h:LF w g L gp gc bl cp)(hW:WF L){a:Option Addr}{n cap:Nat}{xs:List Int}(hn:n<=1000)(hr:Row w a n xs)(hx:Rgs xs):
  Calls prog 197 #[.pointer (some ⟨g,0,none⟩),.slice a n cap] w λe w'=>∃v,e= .returned v/\OwnD w' w.heap.size v (znk L xs).length (znk L xs)/\Bw w w':=by
 have Cz:=kA (zh1 (cap:=cap) hr om);have dE:=znl xs;rw[hr.1]at dE;have xF:Hid (∀u z a2 c2,Bw w u->z∈zfi xs->Row u a2 (zfi xs).length (zfi xs)->Calls prog 181 #[.pointer (some ⟨g,0,none⟩),.int .i64 z,.slice a2 (zfi xs).length c2] u λe w'=>e= .returned (.bool (zeg L (zfi xs) z))/\Bw u w'):=kA (λu z a2 c2 q hz dy=>zni (h.keep q) hW (hx z (zb0.1 hz)) dy om (zyN (ziW xs)));obtain⟨i0,ku,kO,kP,kH⟩:=info_parts zcr;have HI:=kA (And.intro ku (And.intro kO (And.intro kP kH)));have HS:Hid (Lib.compact (xs.mergeSort (λx y=>decide (x<=y)))=zfi xs):=kA (by unfold zfi;rw[zm2 (List.Perm.refl xs)]);obtain⟨C,hC⟩:∃C,C=zfi xs:=⟨_,rfl⟩;obtain⟨T,hT⟩:∃T,T=znk L xs:=⟨_,rfl⟩;have HT:Hid (T=C.filter (λx=> !zeg L C x)):=kA (by rw[hT,hC];rfl);rw[<-hC]at xF HS dE;rw[<-hT];clear h hW hr hx ku kO kP kH hC hT;go_enter func197,ntmps197;go_wp2_with fail;refine Cz.mono ?_;rintro e w1 ⟨v1,rfl,o1,b1⟩;have Dl:=kA (zeO o1 om);have CE:=kA o1;have Hg:=kA b1;clear o1 b1 Cz;go_wp2_with fail;refine Dl.mono ?_;rintro e w2 ⟨rfl,o2,g2⟩;have yL:=kA (zq7 o2);rw[HS.out]at yL;have Dm:=kA o2;have Hm:=kA (zbm CE (Nat.le_refl _) Hg g2);clear o2 g2 Dl CE Hg;go_wp2_with fail;refine yL.mono ?_;rintro e w3 ⟨v3,rfl,o3,g3,-⟩;have dq:=kA (zbm Dm (Nat.le_refl _) Hm g3);obtain⟨a3,c3,rfl,r3⟩:=o3.row;have cA:=kA r3;have Ks:=dq.size;obtain⟨m,hm⟩:∃m,m=C.length:=⟨_,rfl⟩;rw[<-hm]at cA xF dE ⊢;have HM:=kA hm;have ET:=cA.2.1;clear o3 g3 r3 Dm Hm yL HS hm;go_wp2
 go_loopw [6,8,17] (λv6 _ i wr=>∃j:Nat,j<=m/\i= .int .i64 j/\OwnD wr w3.heap.size v6 ((C.take j).filter (λx=> !zeg L C x)).length ((C.take j).filter (λx=> !zeg L C x))/\Bw w3 wr) (λ_ _ i _=>m - (ivl i).toNat)
 case atStart=>exact⟨0,om,rfl,OwnD.nil _ _,Below.refl _ _⟩
 case round=>
  obtain⟨j,hj,rfl,ho,hb⟩:=hrel;have Hj:=kA ho;have HB:=kA hb;have HR:=kA (zar cA hb);have EU:w3.heap.size<=wr.heap.size:=hb.size;clear ho hb
  by_cases hlt:j<m
  ·obtain⟨b,off,z,rfl,hz,cz⟩:=zci HR hlt;have Ho:=World.block_lt_of_cell? _ _ cz;have HH:=kA (xF wr z (some ⟨b,off,none⟩) c3 (zad dq HB) (mem_of_getElem? hz) HR);have j0:(0:Int)<=(j:Int):=om;have j1:(j:Int)<(m:Int):=om;obtain⟨hb,yK⟩:∃hb,hb=zeg L C z:=⟨_,rfl⟩
   have Hk:Hid ((C.take (j+1)).filter (λx=> !zeg L C x)=(C.take j).filter (λx=> !zeg L C x)++(if hb then [] else [z])):=kA (by
    rw[take_add_one,hz,filter_append,yK]
    cases q:zeg L C z <;> simp[q])
   have zG:((C.take j).filter (λx=> !zeg L C x)).length<=1000:=by
    have q1:=length_filter_le (λx=> !zeg L C x) (C.take j);rw[length_take]at q1;omega
   rw[<-yK]at HH;clear hz yK;go_wp2_with fail;refine HH.mono ?_;rintro e w5 ⟨rfl,b5⟩;replace Hj:=kA (Hj.keep b5);replace HB:=kA (zad (w:=w3) HB b5);have Ss:w3.heap.size<=w5.heap.size:=HB.size;clear b5 HH HR cz Ho
   cases hb with
   | true=>
    go_wp2;go_roundw
    case rel=>exact⟨j+1,om,by go_num,by rw[Hk.out];simpa using Hj.out,HB⟩
    case measure=>simp[ivl] <;> omega
   | false=>
    obtain⟨pre,jr⟩:∃pre,pre=(C.take j).filter (λx=> !zeg L C x):=⟨_,rfl⟩;rw[<-jr]at Hj Hk zG;obtain⟨k,hk⟩:∃k,k=pre.length:=⟨_,rfl⟩;rw[<-hk]at Hj zG;have HK:=kA hk;clear jr hk;go_wp2_with (at_builtin;refine wpList_append_own _ rfl (.tmp 26) (.tmp 28) 35 rfl w3.heap.size 81 i0 (.int .i64 0) 1 8 underlying35 HI.1 HI.2.1 HI.2.2.1 HI.2.2.2 rfl (by decide) _ _ _ rfl (Hj.alloc _) ⟨w5.heap.size,0,none⟩ 1 1 [.int .i64 z] rfl rfl (cell_one_new _ _ _) (by intro u hu;simp at hu;subst hu;rfl) (by unfold maxLen;omega) om (by simp;omega) ?_);intro v' w6 km ko _;have Ke:=kA km;have dY:=kA (zbS Hj (Nat.le_refl _) HB Ss ko);clear km ko;go_wp2;go_roundw
    case rel=>
     refine⟨j+1,om,by go_num,?_,dY⟩;rw[Hk.out];show OwnD _ _ _ (pre++[z]).length (pre++[z]);rw[length_append,<-HK.out];unfold OwnD;rw[map_append];exact Ke
    case measure=>simp[ivl] <;> omega
  ·obtain rfl:j=m:=om;have e0:C.take j=C:=take_of_length_le (by rw[HM.out];exact Nat.le_refl _);rw[e0,<-HT.out]at Hj;have HE:=kA (And.intro (Hj.base Ks) (zad dq HB));have j1:¬(j:Int)<(j:Int):=om;clear e0;go_wp2;go_ret;exact⟨_,rfl,HE⟩
end
end Go.Proofs.YtlibdcmcbinfnaaGreat
