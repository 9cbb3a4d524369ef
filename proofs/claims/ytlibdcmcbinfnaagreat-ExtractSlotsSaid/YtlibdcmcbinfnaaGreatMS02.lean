/- Lemmas. -/
import Derived.Test.YtlibdcmcbinfnaaGreatMS01
set_option maxHeartbeats 100000000
set_option maxRecDepth 1000000
namespace Go.Proofs.YtlibdcmcbinfnaaGreat
open _root_.Go.Proofs.Tryz List Nat
open Go.RowKit
def alP(M:Nat->Int)(r:Nat)(V:Nat->Int)(j:Nat):Int:=zkW (M (4*r+j)) (V j)
def zu2(M:Nat->Int)(r:Nat)(V:Nat->Int)(j:Nat):Int:=zea (M (4*r+j)) (V j)
def alF(M:Nat->Int)(r:Nat)(V:Nat->Int):Int:=zc5 (zu2 M r V 0) (zu2 M r V 1) (zu2 M r V 2)
def alL(M:Nat->Int)(r:Nat)(V:Nat->Int)(l:Int):List Int:=[alP M r V 0,alP M r V 1,alP M r V 2,l]
def alV(M:Nat->Int)(r:Nat)(V:Nat->Int)(l:Int):Int:=if alF M r V=0 then zik (alL M r V l) else 0
def alE(M:Nat->Int)(r:Nat)(V:Nat->Int)(l:Int):Int:=if alF M r V=0 then zfh (alL M r V l) else alF M r V
variable{M V A B:Nat->Int}{r b p g:Nat}{w:World}{t:TypeId}
theorem zu3(l:Int)(h:alF M r V=0):alV M r V l=zik (alL M r V l)/\alE M r V l=zfh (alL M r V l):=by
 unfold alV alE;rw[if_pos h,if_pos h];exact⟨rfl,rfl⟩
theorem zya(l:Int)(h:alF M r V≠0):alV M r V l=0/\alE M r V l=alF M r V:=by
 unfold alV alE;rw[if_neg h,if_neg h];exact⟨rfl,rfl⟩
theorem zv0(r p n:Nat)(w:World)(hr:r<3)(hp:p<4)(hn:n=4*r+p):
  Calls prog 286 #[.int .i64 r,.int .i64 p] w λe w'=>e= .returned (.int .i64 (n:Int))/\w=w':=by
 subst hn;exact zjx r p w hr hp
theorem zu4(r n:Nat)(w:World)(hr:r<3)(hn:n=4*r+3):
  Calls prog 286 #[.int .i64 r,.int .i64 3] w λe w'=>e= .returned (.int .i64 (n:Int))/\w=w':=by
 subst hn;exact zvZ r w hr
def zgq(f:Nat->Int)(l:Int)(k j:Nat):Value:=if j=3 then .int .i64 l else zbV f k j
theorem zpP(f:Nat->Int)(l:Int)(k j:Nat)(hk:k<3):(if j=k then Value.int .i64 (f k) else zgq f l k j)=zgq f l (k+1) j:=by
 unfold zgq
 by_cases e:j=3
 ·rw[if_neg om,if_pos e,if_pos e]
 ·rw[if_neg e,if_neg e];exact zdF f k j
theorem zn9(w:World)(t:TypeId)(f:Nat->Int)(l:Int):(w.alloc (.cells #[.int .i64 0,.int .i64 0,.int .i64 0,.int .i64 l] t)).rowIs w.heap.size t 4 (zgq f l 0):=by
 refine (World.rowIs_alloc w _ t (zgq f l 0) (λi hi=> ?_));obtain rfl | rfl | rfl | rfl:i=0∨i=1∨i=2∨i=3:=by simp at hi;omega
 ·rfl
 ·rfl
 ·rfl
 ·rfl
theorem zf2{b':Nat}{n:Nat}{f:Nat->Value}(h:w.rowIs b t n f)(e:b=b'):w.rowIs b' t n f:=e ▸ h
theorem zjA(M:Nat->Int)(r:Nat)(V:Nat->Int)(l:Int)(w:World)(hr:r<3):
  Calls prog 307 #[.agg #[.int .i64 (M 0),.int .i64 (M 1),.int .i64 (M 2),.int .i64 (M 3),.int .i64 (M 4),.int .i64 (M 5),.int .i64 (M 6),.int .i64 (M 7),.int .i64 (M 8),.int .i64 (M 9),.int .i64 (M 10),.int .i64 (M 11)],.int .i64 r,.agg #[.int .i64 (V 0),.int .i64 (V 1),.int .i64 (V 2)],.int .i64 l] w λe w'=>e= .returned (.tuple #[.int .i64 (alV M r V l),.int .i64 (alE M r V l)])/\Bw w w':=by
 go_enter func307,ntmps307;go_wp2
 go_loopw [16] (λi wr=>∃k:Nat,k<=3/\i= .int .i64 k/\(∀j,j<k->zu2 M r V j=0)/\wr.rowIs (w.heap.size+2) 400 4 (zgq (alP M r V) l k)/\BM wr w.heap.size M/\BV3 wr (w.heap.size+1) V/\Bw w wr) (λi _=>3 - (intOf i).toNat)
 case atStart=>exact⟨0,om,rfl,λj hj=>om,zf2 (zn9 _ _ _ _) (by simp),((Blk.new w _ _).alloc _).alloc _,(zbe ((Blk.new (w.alloc _) _ _).alloc _) (by simp)),zag (zag (zaa _ _) _) _⟩
 case round=>
  obtain⟨k,hk,rfl,hz,Hd,xq,XT,hb⟩:=hrel;have HZ:=kA hz;have hJ:=kA Hd;have HM:=kA xq;have HV:=kA XT;have HB:=kA hb;clear hz Hd xq XT hb
  by_cases hlt:k<3
  ·obtain⟨n,hn⟩:∃n,n=4*r+k:=⟨_,rfl⟩;have HN:=kA hn;have D3:n<12:=om;clear hn;have cx:=Blk.at12 HM D3;have cy:=Blk.at3 HV hlt;obtain⟨x,hx⟩:∃x,x=M n:=⟨_,rfl⟩;obtain⟨y,hy⟩:∃y,y=V k:=⟨_,rfl⟩;have HD:Hid (alP M r V k=zkW x y/\zu2 M r V k=zea x y):=kA (by unfold alP zu2;rw[hx,hy,HN.out];exact⟨rfl,rfl⟩);rw[<-hx]at cx;rw[<-hy]at cy;clear hx hy;have hk0:(0:Int)<=(k:Int):=om;have cQ:(k:Int)<3:=om;have C4:(0:Int)<=(n:Int):=om;have dh:(n:Int)<12:=om;go_wp2
   go_region_held3 (λw'=>w'.cell? ⟨w.heap.size,n,none⟩=some (.int .i64 x)/\w'.cell? ⟨w.heap.size+1,k,none⟩=some (.int .i64 y)) (first | exact⟨zd0 b2 cx,zd0 b2 cy⟩ | go_keep)
    (first | (go_at_call 286;refine (zv0 r k n _ hr om HN).mono ?_;rintro e w1 ⟨rfl,rfl⟩) | (go_at_call 313;refine (zpr _ _ _).mono ?_;rintro e w2 ⟨rfl,b2⟩))
   have B2:=kA (zaH b2);clear b2 cx cy;have Hl:=kA (hJ.of_block (B2.block _ hJ.lt));have De:=kA (Blk.keep HM B2);have DL:=kA (Blk.keep HV B2);have He:=kA (zad HB B2);clear B2
   by_cases he:zea x y=0
   ·have KC:=kA he;have Cv:(zea x y != 0)=false:=by rw[he];rfl
    clear he;have rc:=Hl.cell (i:=k) om;have rf:=Hl.frozen k;have JN:k≠3:=om;unfold zgq zbV at rc;simp only[Nat.lt_irrefl,if_false,JN]at rc;go_wp2;go_roundw
    case rel=>exact⟨k+1,om,by go_num,zeA HZ (by rw[HD.2];exact KC),(Hl.set k _).congr (λi _=>by rw[<-HD.1];exact zpP _ _ k i hlt),De.far (by simp;omega) _,DL.far (by simp) _,He.setCell (by simp;omega) _⟩
    case measure=>simp[intOf];omega
   ·have KC:=kA he;have Cv:(zea x y != 0)=true:=by simpa using he
    clear he;go_wp2;go_ret2;have e1:alF M r V=zea x y:=by
     rw[<-HD.2];exact zgm (e:=zu2 M r V) hlt HZ (by rw[HD.2];exact KC)
    have e2:alF M r V≠0:=by rw[e1];exact KC
    exact⟨by rw[(zya l e2).1,(zya l e2).2,e1];rfl,He⟩
  ·obtain rfl:k=3:=om
   have Hd:Row wr (some ⟨w.heap.size+2,0,none⟩) 4 (alL M r V l):=zpB rfl om (hJ.congr (λi hi=>by
    obtain rfl | rfl | rfl | rfl:i=0∨i=1∨i=2∨i=3:=om
    ·rfl
    ·rfl
    ·rfl
    ·rfl))
   have HR:=kA Hd;clear Hd;go_wp2_with fail;refine (zpw _ _ _ _ _ HR).mono ?_;rintro e w2 ⟨rfl,b2⟩;have He:=kA (zad HB b2);clear b2;go_wp2;go_ret2;have e1:alF M r V=0:=zee (e:=zu2 M r V) HZ;exact⟨by rw[(zu3 l e1).1,(zu3 l e1).2];rfl,He⟩
def zfi(M:Nat->Int)(p j:Nat):Int:=M (4*j+p)
theorem zhK(M:Nat->Int)(p:Nat)(w:World)(hp:p<4):
  Calls prog 308 #[.agg #[.int .i64 (M 0),.int .i64 (M 1),.int .i64 (M 2),.int .i64 (M 3),.int .i64 (M 4),.int .i64 (M 5),.int .i64 (M 6),.int .i64 (M 7),.int .i64 (M 8),.int .i64 (M 9),.int .i64 (M 10),.int .i64 (M 11)],.int .i64 p] w λe w'=>e= .returned (.agg #[.int .i64 (zfi M p 0),.int .i64 (zfi M p 1),.int .i64 (zfi M p 2)])/\Bw w w':=by
 go_enter func308,ntmps308;go_wp2
 go_loopw [7] (λi wr=>∃k:Nat,k<=3/\i= .int .i64 k/\wr.rowIs (w.heap.size+2) 48 3 (zbV (zfi M p) k)/\BM wr w.heap.size M/\Blk wr (w.heap.size+1) 48 #[.int .i64 0,.int .i64 0,.int .i64 0]/\Bw w wr) (λi _=>3 - (intOf i).toNat)
 case atStart=>exact⟨0,om,rfl,zf2 (zhI _ _ _) (by simp),((Blk.new w _ _).alloc _).alloc _,(zbe ((Blk.new (w.alloc _) _ _).alloc _) (by simp)),zag (zag (zaa _ _) _) _⟩
 case round=>
  obtain⟨k,hk,rfl,Hd,xq,kZ,hb⟩:=hrel;have hJ:=kA Hd;have HM:=kA xq;have kw:=kA kZ;have HB:=kA hb;clear Hd xq kZ hb
  by_cases hlt:k<3
  ·obtain⟨n,hn⟩:∃n,n=4*k+p:=⟨_,rfl⟩;have HN:=kA hn;have D3:n<12:=om;clear hn;have cx:=Blk.at12 HM D3;have rc:=hJ.cell (i:=k) om;have rf:=hJ.frozen k;unfold zbV at rc;simp only[Nat.lt_irrefl,if_false]at rc;have hk0:(0:Int)<=(k:Int):=om;have cQ:(k:Int)<3:=om;have C4:(0:Int)<=(n:Int):=om;have dh:(n:Int)<12:=om;go_wp2_with fail;refine (zv0 k p n _ om om HN).mono ?_;rintro e w1 ⟨rfl,rfl⟩;go_wp2;go_roundw
   case rel=>exact⟨k+1,om,by go_num,(hJ.set k _).congr (λi _=>by rw[show M n=zfi M p k by unfold zfi;rw[HN.out]];exact zdF _ k i),HM.far (by simp;omega) _,kw.far (by simp) _,HB.setCell (by simp;omega) _⟩
   case measure=>simp[intOf];omega
  ·obtain rfl:k=3:=om;have o0:wr.cell? ⟨w.heap.size+2,0,none⟩=some (.int .i64 (zfi M p 0)):=hJ.cell (i:=0) om;have o1:wr.cell? ⟨w.heap.size+2,1,none⟩=some (.int .i64 (zfi M p 1)):=hJ.cell (i:=1) om;have o2:wr.cell? ⟨w.heap.size+2,2,none⟩=some (.int .i64 (zfi M p 2)):=hJ.cell (i:=2) om;obtain⟨z0,z1,z2,g0,g1,g2⟩:=zpy kw;go_wp2;exact bodyPost_ret (v:= .agg #[.int .i64 (zfi M p 0),.int .i64 (zfi M p 1),.int .i64 (zfi M p 2)]) (by simp[results,results308,go_sem,z0,z1,z2]) rfl ⟨rfl,zk5 HB om⟩
def zgr(e:Nat->Int):Nat->Int
 | 0=>0
 | n+1=>if zgr e n=0 then e n else zgr e n
theorem zeg{e:Nat->Int}:∀ {n:Nat},(∀j,j<n->e j=0)->zgr e n=0
 | 0,_=>rfl
 | n+1,h=>by
  unfold zgr;rw[if_pos (zeg (λj hj=>h j om))];exact h n om
theorem zgs{e:Nat->Int}{k:Nat}(h:∀j,j<k->e j=0)(he:e k≠0):∀ {n:Nat},k<n->zgr e n=e k
 | 0,hk=>om
 | n+1,hk=>by
  unfold zgr
  by_cases c:k=n
  ·subst c;rw[if_pos (zeg h)]
  ·have i:=zgs h he (n:=n) om;rw[if_neg (by rw[i];exact he),i]
def zoa(A:Nat->Int)(r p:Nat):Int:=if p=3 then A (4*r+3) else 0
def pV(A B:Nat->Int)(k:Nat):Int:=alV A (k / 4) (zfi B (k % 4)) (zoa A (k / 4) (k % 4))
def pE(A B:Nat->Int)(k:Nat):Int:=alE A (k / 4) (zfi B (k % 4)) (zoa A (k / 4) (k % 4))
def zaE(A B:Nat->Int):Int:=zgr (pE A B) 12
def zbB(A B:Nat->Int)(k:Nat):Int:=zph (zaE A B) (pV A B k)
theorem zzD(A B:Nat->Int){r p:Nat}(hp:p<4):pV A B (4*r+p)=alV A r (zfi B p) (zoa A r p):=by
 unfold pV;rw[show (4*r+p) / 4=r by omega,show (4*r+p) % 4=p by omega]
theorem zzE(A B:Nat->Int){r p:Nat}(hp:p<4):pE A B (4*r+p)=alE A r (zfi B p) (zoa A r p):=by
 unfold pE;rw[show (4*r+p) / 4=r by omega,show (4*r+p) % 4=p by omega]
theorem zcp(h:zaE A B=0)(k:Nat):zbB A B k=pV A B k:=by unfold zbB;rw[h];rfl
theorem zaX(h:zaE A B≠0)(k:Nat):zbB A B k=0:=by unfold zbB zph;rw[if_neg h]
theorem zjB(w:World)(t:TypeId)(f:Nat->Int):(w.alloc (.cells #[.int .i64 0,.int .i64 0,.int .i64 0,.int .i64 0,.int .i64 0,.int .i64 0,.int .i64 0,.int .i64 0,.int .i64 0,.int .i64 0,.int .i64 0,.int .i64 0] t)).rowIs w.heap.size t 12 (zbV f 0):=by
 refine (World.rowIs_alloc w _ t (zbV f 0) (λi hi=> ?_));rcases zvY (k:=i) (by simpa using hi) with rfl | rfl | rfl | rfl | rfl | rfl | rfl | rfl | rfl | rfl | rfl | rfl <;> rfl
theorem zob{f:Nat->Int}(h:w.rowIs b t 12 (zbV f (4*3))):Blk w b t #[.int .i64 (f 0),.int .i64 (f 1),.int .i64 (f 2),.int .i64 (f 3),.int .i64 (f 4),.int .i64 (f 5),.int .i64 (f 6),.int .i64 (f 7),.int .i64 (f 8),.int .i64 (f 9),.int .i64 (f 10),.int .i64 (f 11)]:=by
 obtain⟨c,hh,hs,hc⟩:=h;have e:c= #[.int .i64 (f 0),.int .i64 (f 1),.int .i64 (f 2),.int .i64 (f 3),.int .i64 (f 4),.int .i64 (f 5),.int .i64 (f 6),.int .i64 (f 7),.int .i64 (f 8),.int .i64 (f 9),.int .i64 (f 10),.int .i64 (f 11)]:=by
  apply Array.ext
  ·simp[hs]
  ·intro i h1 h2;have hi:=hc i om;rw[Array.getElem?_eq_getElem h1]at hi;rcases zvY (k:=i) om with rfl | rfl | rfl | rfl | rfl | rfl | rfl | rfl | rfl | rfl | rfl | rfl <;> simpa[zbV] using hi
 unfold Blk;rw[hh,e]
theorem zpQ(hA:Blk w g t #[.int .i64 (A 0),.int .i64 (A 1),.int .i64 (A 2),.int .i64 (A 3),.int .i64 (A 4),.int .i64 (A 5),.int .i64 (A 6),.int .i64 (A 7),.int .i64 (A 8),.int .i64 (A 9),.int .i64 (A 10),.int .i64 (A 11)]):w.rangeAt g 0 [.int .i64 (A 0),.int .i64 (A 1),.int .i64 (A 2),.int .i64 (A 3),.int .i64 (A 4),.int .i64 (A 5),.int .i64 (A 6),.int .i64 (A 7),.int .i64 (A 8),.int .i64 (A 9),.int .i64 (A 10),.int .i64 (A 11)]:=λj v hv=>by
 rw[Nat.zero_add,hA.cell j];simpa using hv
theorem zhL{g':Nat}{t':TypeId}(hA:Blk w g t #[.int .i64 (A 0),.int .i64 (A 1),.int .i64 (A 2),.int .i64 (A 3),.int .i64 (A 4),.int .i64 (A 5),.int .i64 (A 6),.int .i64 (A 7),.int .i64 (A 8),.int .i64 (A 9),.int .i64 (A 10),.int .i64 (A 11)])(hB:Blk w g' t' #[.int .i64 (B 0),.int .i64 (B 1),.int .i64 (B 2),.int .i64 (B 3),.int .i64 (B 4),.int .i64 (B 5),.int .i64 (B 6),.int .i64 (B 7),.int .i64 (B 8),.int .i64 (B 9),.int .i64 (B 10),.int .i64 (B 11)]):w.rangeAt g 0 [.int .i64 (A 0),.int .i64 (A 1),.int .i64 (A 2),.int .i64 (A 3),.int .i64 (A 4),.int .i64 (A 5),.int .i64 (A 6),.int .i64 (A 7),.int .i64 (A 8),.int .i64 (A 9),.int .i64 (A 10),.int .i64 (A 11)]/\w.rangeAt g' 0 [.int .i64 (B 0),.int .i64 (B 1),.int .i64 (B 2),.int .i64 (B 3),.int .i64 (B 4),.int .i64 (B 5),.int .i64 (B 6),.int .i64 (B 7),.int .i64 (B 8),.int .i64 (B 9),.int .i64 (B 10),.int .i64 (B 11)]:=⟨zpQ hA,zpQ hB⟩
theorem zv1(A:Nat->Int):(prog.info? 46).map (·.size)=some ([.int .i64 (A 0),.int .i64 (A 1),.int .i64 (A 2),.int .i64 (A 3),.int .i64 (A 4),.int .i64 (A 5),.int .i64 (A 6),.int .i64 (A 7),.int .i64 (A 8),.int .i64 (A 9),.int .i64 (A 10),.int .i64 (A 11)]:List Value).length:=oM
theorem zsO(M:Nat->Int)(w:World):
  Calls prog 308 #[.agg #[.int .i64 (M 0),.int .i64 (M 1),.int .i64 (M 2),.int .i64 (M 3),.int .i64 (M 4),.int .i64 (M 5),.int .i64 (M 6),.int .i64 (M 7),.int .i64 (M 8),.int .i64 (M 9),.int .i64 (M 10),.int .i64 (M 11)],.int .i64 3] w λe w'=>e= .returned (.agg #[.int .i64 (zfi M 3 0),.int .i64 (zfi M 3 1),.int .i64 (zfi M 3 2)])/\Bw w w':=zhK M 3 w om
theorem zsP(A B:Nat->Int)(w:World):
  Calls prog 287 #[.agg #[.int .i64 (A 0),.int .i64 (A 1),.int .i64 (A 2),.int .i64 (A 3),.int .i64 (A 4),.int .i64 (A 5),.int .i64 (A 6),.int .i64 (A 7),.int .i64 (A 8),.int .i64 (A 9),.int .i64 (A 10),.int .i64 (A 11)],.agg #[.int .i64 (B 0),.int .i64 (B 1),.int .i64 (B 2),.int .i64 (B 3),.int .i64 (B 4),.int .i64 (B 5),.int .i64 (B 6),.int .i64 (B 7),.int .i64 (B 8),.int .i64 (B 9),.int .i64 (B 10),.int .i64 (B 11)]] w λe w'=>e= .returned (.tuple #[.agg #[.int .i64 (zbB A B 0),.int .i64 (zbB A B 1),.int .i64 (zbB A B 2),.int .i64 (zbB A B 3),.int .i64 (zbB A B 4),.int .i64 (zbB A B 5),.int .i64 (zbB A B 6),.int .i64 (zbB A B 7),.int .i64 (zbB A B 8),.int .i64 (zbB A B 9),.int .i64 (zbB A B 10),.int .i64 (zbB A B 11)],.int .i64 (zaE A B)])/\Bw w w':=by
 go_enter func287,ntmps287;go_wp2
 go_loopw [12] (λi wr=>∃r:Nat,r<=3/\i= .int .i64 r/\(∀j,j<4*r->pE A B j=0)/\wr.rowIs (w.heap.size+3) 46 12 (zbV (pV A B) (4*r))/\BM wr w.heap.size A/\BM wr (w.heap.size+1) B/\Blk wr (w.heap.size+2) 46 #[.int .i64 0,.int .i64 0,.int .i64 0,.int .i64 0,.int .i64 0,.int .i64 0,.int .i64 0,.int .i64 0,.int .i64 0,.int .i64 0,.int .i64 0,.int .i64 0]/\Bw w wr) (λi _=>3 - (intOf i).toNat)
 case atStart=>exact⟨0,om,rfl,λj hj=>om,zf2 (zjB _ _ _) (by simp),(((Blk.new w _ _).alloc _).alloc _).alloc _,(zbe (((Blk.new (w.alloc _) _ _).alloc _).alloc _) (by simp)),(zbe ((Blk.new ((w.alloc _).alloc _) _ _).alloc _) (by simp)),zag (zag (zag (zaa _ _) _) _) _⟩
 case round=>
  obtain⟨r,ZL,rfl,hz,Hd,ha,xq,kZ,hb⟩:=hrel;have HZ:=kA hz;have hJ:=kA Hd;have HA:=kA ha;have Df:=kA xq;have kw:=kA kZ;have HB:=kA hb;clear hz Hd ha xq kZ hb
  by_cases hr:r<3
  ·have T4:decide ((r:Int)<3)=true:=by simp;omega
   go_wp2
   go_loopw [15] (λi wi=>∃p:Nat,p<=4/\i= .int .i64 p/\(∀j,j<4*r+p->pE A B j=0)/\wi.rowIs (w.heap.size+3) 46 12 (zbV (pV A B) (4*r+p))/\BM wi w.heap.size A/\BM wi (w.heap.size+1) B/\Blk wi (w.heap.size+2) 46 #[.int .i64 0,.int .i64 0,.int .i64 0,.int .i64 0,.int .i64 0,.int .i64 0,.int .i64 0,.int .i64 0,.int .i64 0,.int .i64 0,.int .i64 0,.int .i64 0]/\Bw w wi) (λi _=>4 - (intOf i).toNat)
   case atStart=>exact⟨0,om,rfl,HZ.out,hJ.out,HA.out,Df.out,kw.out,HB⟩
   case round=>
    clear HZ hJ HA Df kw HB;obtain⟨p,Xh,rfl,hz,Hd,ha,xq,kZ,hb⟩:=hrel;have HZ:=kA hz;have hJ:=kA Hd;have HA:=kA ha;have Df:=kA xq;have kw:=kA kZ;have HB:=kA hb;clear hz Hd ha xq kZ hb
    by_cases hp:p<4
    ·obtain⟨n,hn⟩:∃n,n=4*r+p:=⟨_,rfl⟩;have HN:=kA hn;have D3:n<12:=om;clear hn;have xr:(0:Int)<=(p:Int):=om;have Nn:(p:Int)<4:=om;have C4:(0:Int)<=(n:Int):=om;have dh:(n:Int)<12:=om;have Sx:=zv1 A;have Sy:=zv1 B;have hu:=underlying46;obtain⟨l,hl⟩:∃l,l=zoa A r p:=⟨_,rfl⟩;have HD:Hid (pV A B n=alV A r (zfi B p) l/\pE A B n=alE A r (zfi B p) l):=kA (by rw[HN.out,hl];exact⟨zzD A B hp,zzE A B hp⟩)
     by_cases h3:p=3
     ·subst h3;have Yw:l=A n:=by rw[hl,HN.out];rfl
      clear hl;have cm:=Blk.at12 HA D3;rw[<-Yw]at cm;clear Yw;go_wp2_with fail;refine (zu4 r n _ hr HN).mono ?_;rintro e w1 ⟨rfl,rfl⟩;go_wp2;clear cm;refine wp_region_held_drew (S:=λw'=>w'.rangeAt w.heap.size 0 [.int .i64 (A 0),.int .i64 (A 1),.int .i64 (A 2),.int .i64 (A 3),.int .i64 (A 4),.int .i64 (A 5),.int .i64 (A 6),.int .i64 (A 7),.int .i64 (A 8),.int .i64 (A 9),.int .i64 (A 10),.int .i64 (A 11)]/\w'.rangeAt (w.heap.size+1) 0 [.int .i64 (B 0),.int .i64 (B 1),.int .i64 (B 2),.int .i64 (B 3),.int .i64 (B 4),.int .i64 (B 5),.int .i64 (B 6),.int .i64 (B 7),.int .i64 (B 8),.int .i64 (B 9),.int .i64 (B 10),.int .i64 (B 11)]) oM (zhL (Blk.drew HA) (Blk.drew Df)) (λhHeld=> ?_);refine tkl 0 rfl (yieldsIf_load_mid (by rfl) _ _ rfl _ _ rfl _ _ (λ_ h=>h.1) hu rfl Sx) hHeld ?_;refine tk 1 hHeld ?_;refine tkl 2 rfl (yieldsIf_load_mid (by rfl) _ _ rfl _ _ rfl _ _ (λ_ h=>h.2) hu rfl Sy) hHeld ?_;refine tk 3 hHeld ?_;refine tk 5 hHeld ?_;refine rd 4 (λK hK=> ?_);go_simp
      go_at_call 308
      refine (zsO B _).mono ?_;rintro e w2 ⟨rfl,b2⟩;go_wp2_with fail;refine hK.out _ _ (zhL (Blk.keep HA (zaH b2)) (Blk.keep Df (zaH b2))) (λhHeld=> ?_);clear hK K;refine rd 6 (λK hK=> ?_);go_simp
      go_at_call 307
      refine (zjA A r (zfi B 3) l _ hr).mono ?_;rintro e w3 ⟨rfl,b3⟩;go_wp2_with fail;refine hK.out _ _ (zhL (Blk.keep (Blk.keep HA (zaH b2)) b3) (Blk.keep (Blk.keep Df (zaH b2)) b3)) (λhHeld=> ?_);clear hK K;refine tk 7 hHeld ?_;refine tk 8 hHeld ?_;refine tk 9 hHeld ?_;refine tk 10 hHeld ?_;refine tk 11 hHeld ?_;refine wpAnyH_done oM ?_ _;have B3:=kA (zad (zaH b2) b3);clear hHeld;clear b2 b3;have Hl:=kA (hJ.of_block (B3.block _ hJ.lt));have ZM:=kA (Blk.keep HA B3);have xt:=kA (Blk.keep Df B3);have kv:=kA (Blk.keep kw B3);have He:=kA (zad HB B3);clear B3 hJ HA Df kw HB;obtain⟨x,hx⟩:∃x,x=alV A r (zfi B 3) l:=⟨_,rfl⟩;obtain⟨y,hy⟩:∃y,y=alE A r (zfi B 3) l:=⟨_,rfl⟩;rw[<-hx,<-hy]at HD;rw[<-hx,<-hy];clear hx hy
      by_cases he:y=0
      ·have KC:=kA he;have Cv:(y != 0)=false:=by rw[he];rfl
       clear he;have rc:=Hl.cell (i:=n) om;have rf:=Hl.frozen n;have KL:¬(n<4*r+3):=by have:=HN.out;omega
       unfold zbV at rc;rw[if_neg KL]at rc;clear KL;go_wp2_with fail;refine (zu4 r n _ hr HN).mono ?_;rintro e w4 ⟨rfl,rfl⟩;go_wp2;go_roundw
       case rel=>exact⟨3+1,om,by go_num,by rw[show 4*r+(3+1)=n+1 by have:=HN.out;omega];exact zeA (by rw[HN.out];exact HZ) (by rw[HD.2];exact KC),(Hl.set n _).congr (λi _=>by rw[<-HD.1,show 4*r+(3+1)=n+1 by have:=HN.out;omega,show 4*r+3=n from HN.symm];exact zdF _ n i),ZM.far (by simp <;> omega) _,xt.far (by simp <;> omega) _,kv.far (by simp) _,He.setCell (by simp <;> omega) _⟩
       case measure=>simp[intOf] <;> omega
      ·have KC:=kA he;have Cv:(y != 0)=true:=by simpa using he
       clear he Hl ZM xt;obtain⟨c0,c1,c2,c3,c4,c5,c6,c7,c8,c9,c10,c11,f0,f1,f2,f3,f4,f5,f6,f7,f8,f9,f10,f11⟩:=zdB kv;go_wp2;have e1:zaE A B=y:=by
        rw[<-HD.2];exact zgs (e:=pE A B) (by rw[HN.out];exact HZ) (by rw[HD.2];exact KC) D3
       have e2:zaE A B≠0:=by rw[e1];exact KC
       exact bodyPost_ret (v:= .tuple #[.agg #[.int .i64 0,.int .i64 0,.int .i64 0,.int .i64 0,.int .i64 0,.int .i64 0,.int .i64 0,.int .i64 0,.int .i64 0,.int .i64 0,.int .i64 0,.int .i64 0],.int .i64 y]) (by simp[results,results287,go_sem,c0,c1,c2,c3,c4,c5,c6,c7,c8,c9,c10,c11]) rfl ⟨by rw[zaX e2 0,zaX e2 1,zaX e2 2,zaX e2 3,zaX e2 4,zaX e2 5,zaX e2 6,zaX e2 7,zaX e2 8,zaX e2 9,zaX e2 10,zaX e2 11,e1],zdz He om⟩
     ·have Yw:l=0:=by rw[hl];unfold zoa;rw[if_neg h3]
      clear hl;subst Yw;have yO:((p:Int)==3)=false:=by simp;omega
      have KE:decide ((p:Int)=3)=false:=by simp;omega
      go_wp2;refine wp_region_held_drew (S:=λw'=>w'.rangeAt w.heap.size 0 [.int .i64 (A 0),.int .i64 (A 1),.int .i64 (A 2),.int .i64 (A 3),.int .i64 (A 4),.int .i64 (A 5),.int .i64 (A 6),.int .i64 (A 7),.int .i64 (A 8),.int .i64 (A 9),.int .i64 (A 10),.int .i64 (A 11)]/\w'.rangeAt (w.heap.size+1) 0 [.int .i64 (B 0),.int .i64 (B 1),.int .i64 (B 2),.int .i64 (B 3),.int .i64 (B 4),.int .i64 (B 5),.int .i64 (B 6),.int .i64 (B 7),.int .i64 (B 8),.int .i64 (B 9),.int .i64 (B 10),.int .i64 (B 11)]) oM (zhL (Blk.drew HA) (Blk.drew Df)) (λhHeld=> ?_);refine tkl 0 rfl (yieldsIf_load_mid (by rfl) _ _ rfl _ _ rfl _ _ (λ_ h=>h.1) hu rfl Sx) hHeld ?_;refine tk 1 hHeld ?_;refine tkl 2 rfl (yieldsIf_load_mid (by rfl) _ _ rfl _ _ rfl _ _ (λ_ h=>h.2) hu rfl Sy) hHeld ?_;refine tk 3 hHeld ?_;refine tk 5 hHeld ?_;refine rd 4 (λK hK=> ?_);go_simp
      go_at_call 308
      refine (zhK B p _ hp).mono ?_;rintro e w2 ⟨rfl,b2⟩;go_wp2_with fail;refine hK.out _ _ (zhL (Blk.keep HA (zaH b2)) (Blk.keep Df (zaH b2))) (λhHeld=> ?_);clear hK K;refine rd 6 (λK hK=> ?_);go_simp
      go_at_call 307
      refine (zjA A r (zfi B p) 0 _ hr).mono ?_;rintro e w3 ⟨rfl,b3⟩;go_wp2_with fail;refine hK.out _ _ (zhL (Blk.keep (Blk.keep HA (zaH b2)) b3) (Blk.keep (Blk.keep Df (zaH b2)) b3)) (λhHeld=> ?_);clear hK K;refine tk 7 hHeld ?_;refine tk 8 hHeld ?_;refine tk 9 hHeld ?_;refine tk 10 hHeld ?_;refine tk 11 hHeld ?_;refine wpAnyH_done oM ?_ _;have B3:=kA (zad (zaH b2) b3);clear hHeld;clear b2 b3;have Hl:=kA (hJ.of_block (B3.block _ hJ.lt));have ZM:=kA (Blk.keep HA B3);have xt:=kA (Blk.keep Df B3);have kv:=kA (Blk.keep kw B3);have He:=kA (zad HB B3);clear B3 hJ HA Df kw HB;obtain⟨x,hx⟩:∃x,x=alV A r (zfi B p) 0:=⟨_,rfl⟩;obtain⟨y,hy⟩:∃y,y=alE A r (zfi B p) 0:=⟨_,rfl⟩;rw[<-hx,<-hy]at HD;rw[<-hx,<-hy];clear hx hy
      by_cases he:y=0
      ·have KC:=kA he;have Cv:(y != 0)=false:=by rw[he];rfl
       clear he;have rc:=Hl.cell (i:=n) om;have rf:=Hl.frozen n;have KL:¬(n<4*r+p):=by have:=HN.out;omega
       unfold zbV at rc;rw[if_neg KL]at rc;clear KL;go_wp2_with fail;refine (zv0 r p n _ hr hp HN).mono ?_;rintro e w4 ⟨rfl,rfl⟩;go_wp2;go_roundw
       case rel=>exact⟨p+1,om,by go_num,by rw[show 4*r+(p+1)=n+1 by have:=HN.out;omega];exact zeA (by rw[HN.out];exact HZ) (by rw[HD.2];exact KC),(Hl.set n _).congr (λi _=>by rw[<-HD.1,show 4*r+(p+1)=n+1 by have:=HN.out;omega,show 4*r+p=n from HN.symm];exact zdF _ n i),ZM.far (by simp <;> omega) _,xt.far (by simp <;> omega) _,kv.far (by simp) _,He.setCell (by simp <;> omega) _⟩
       case measure=>simp[intOf] <;> omega
      ·have KC:=kA he;have Cv:(y != 0)=true:=by simpa using he
       clear he Hl ZM xt;obtain⟨c0,c1,c2,c3,c4,c5,c6,c7,c8,c9,c10,c11,f0,f1,f2,f3,f4,f5,f6,f7,f8,f9,f10,f11⟩:=zdB kv;go_wp2;have e1:zaE A B=y:=by
        rw[<-HD.2];exact zgs (e:=pE A B) (by rw[HN.out];exact HZ) (by rw[HD.2];exact KC) D3
       have e2:zaE A B≠0:=by rw[e1];exact KC
       exact bodyPost_ret (v:= .tuple #[.agg #[.int .i64 0,.int .i64 0,.int .i64 0,.int .i64 0,.int .i64 0,.int .i64 0,.int .i64 0,.int .i64 0,.int .i64 0,.int .i64 0,.int .i64 0,.int .i64 0],.int .i64 y]) (by simp[results,results287,go_sem,c0,c1,c2,c3,c4,c5,c6,c7,c8,c9,c10,c11]) rfl ⟨by rw[zaX e2 0,zaX e2 1,zaX e2 2,zaX e2 3,zaX e2 4,zaX e2 5,zaX e2 6,zaX e2 7,zaX e2 8,zaX e2 9,zaX e2 10,zaX e2 11,e1],zdz He om⟩
    ·obtain rfl:p=4:=om;go_wp2;go_roundw
     case rel=>exact⟨r+1,om,by go_num,HZ.out,hJ.out,HA.out,Df.out,kw.out,HB⟩
     case measure=>simp[intOf] <;> omega
  ·obtain rfl:r=3:=om;have hE:zaE A B=0:=zeg HZ;have HE:=kA hE;clear hE;have hm:Blk wr (w.heap.size+3) 46 #[.int .i64 (pV A B 0),.int .i64 (pV A B 1),.int .i64 (pV A B 2),.int .i64 (pV A B 3),.int .i64 (pV A B 4),.int .i64 (pV A B 5),.int .i64 (pV A B 6),.int .i64 (pV A B 7),.int .i64 (pV A B 8),.int .i64 (pV A B 9),.int .i64 (pV A B 10),.int .i64 (pV A B 11)]:=zob hJ;clear HZ hJ HA Df;obtain⟨o0,o1,o2,o3,o4,o5,o6,o7,o8,o9,Ty,Tz,_,_,_,_,_,_,_,_,_,_,_,_⟩:=zdB hm;obtain⟨c0,c1,c2,c3,c4,c5,c6,c7,c8,c9,c10,c11,f0,f1,f2,f3,f4,f5,f6,f7,f8,f9,f10,f11⟩:=zdB kw;clear hm;go_wp2;exact bodyPost_ret (v:= .tuple #[.agg #[.int .i64 (pV A B 0),.int .i64 (pV A B 1),.int .i64 (pV A B 2),.int .i64 (pV A B 3),.int .i64 (pV A B 4),.int .i64 (pV A B 5),.int .i64 (pV A B 6),.int .i64 (pV A B 7),.int .i64 (pV A B 8),.int .i64 (pV A B 9),.int .i64 (pV A B 10),.int .i64 (pV A B 11)],.int .i64 0]) (by simp[results,results287,go_sem,c0,c1,c2,c3,c4,c5,c6,c7,c8,c9,c10,c11]) rfl ⟨by rw[zcp HE 0,zcp HE 1,zcp HE 2,zcp HE 3,zcp HE 4,zcp HE 5,zcp HE 6,zcp HE 7,zcp HE 8,zcp HE 9,zcp HE 10,zcp HE 11,HE.out],zdz HB om⟩
def v3(x y z:Int)(j:Nat):Int:=[x,y,z].getD j 0
theorem zzF(h:Blk w g t #[.int .i64 (M 0),.int .i64 (M 1),.int .i64 (M 2),.int .i64 (M 3),.int .i64 (M 4),.int .i64 (M 5),.int .i64 (M 6),.int .i64 (M 7),.int .i64 (M 8),.int .i64 (M 9),.int .i64 (M 10),.int .i64 (M 11)]):MRow w (some ⟨g,0,none⟩) 1 [M]:=by
 refine⟨rfl,om,.inr ⟨_,_,rfl,λi hi j hj=> ?_⟩⟩;obtain rfl:i=0:=om;have:=h.at12 hj;simpa using this
theorem zim{b:Bool}(ho:okM M=b){w:World}{g cap:Nat}{t:TypeId}(h:Blk w g t #[.int .i64 (M 0),.int .i64 (M 1),.int .i64 (M 2),.int .i64 (M 3),.int .i64 (M 4),.int .i64 (M 5),.int .i64 (M 6),.int .i64 (M 7),.int .i64 (M 8),.int .i64 (M 9),.int .i64 (M 10),.int .i64 (M 11)]):
  Calls prog 188 #[.slice (some ⟨g,0,none⟩) 1 cap] w λe w'=>e= .returned (.bool b)/\Bw w w':=
 (zhJ _ 1 cap [M] w (zzF h)).mono λ_ _ ⟨he,hw⟩=>⟨by rw[he];unfold zbG;simp[ho],hw⟩
theorem zld(h:zcm B=true):zbU [(B 0,B 1,B 2),(B 3,B 4,B 5)]=true/\B 0<=B 3/\B 1<=B 4/\B 2<=B 5:=by
 unfold zcm zhu zhu zhu zhu at h;have h4:((zbU [(B 0,B 1,B 2),(B 3,B 4,B 5)]=true/\B 0<=B (3+0))/\B 1<=B (3+1))/\B 2<=B (3+2):=by simpa using h
 exact⟨h4.1.1.1,h4.1.1.2,h4.1.2,h4.2⟩
theorem zmD(h:zcm B=true){k:Nat}(hk:k<6):okB (B k)=true:=by
 have hr:=(zld h).1;rw[zvR]at hr;obtain⟨ha,hb⟩:=zpC hr;obtain⟨a0,a1,a2⟩:=zju ha;obtain⟨b0,b1,b2⟩:=zju hb;rcases lt6 hk with rfl | rfl | rfl | rfl | rfl | rfl
 ·exact a0
 ·exact a1
 ·exact a2
 ·exact b0
 ·exact b1
 ·exact b2
end Go.Proofs.YtlibdcmcbinfnaaGreat
