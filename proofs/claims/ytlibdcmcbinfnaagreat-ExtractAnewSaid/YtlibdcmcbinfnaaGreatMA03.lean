/- Lemmas. -/
import Derived.Test.YtlibdcmcbinfnaaGreatMA02
set_option maxHeartbeats 100000000
set_option maxRecDepth 1000000
namespace Go.Proofs.YtlibdcmcbinfnaaGreat
open _root_.Go.Proofs.Tryz List Nat
open Go.RowKit
def zcz(P:Nat->Int):List (Nat->Int)->(Nat->Int) × Int
 | []=>(P,0)
 | M::Ms=>if zaG P M=0 then zcz (zbB P M) Ms else (zdK,zaG P M)
def zdF(Ms:List (Nat->Int)):(Nat->Int) × Int:=
 if zbG Ms then (match Ms with | []=>(zcy,0) | M::Ms=>zcz M Ms) else (zdK,1)
variable{Ms:List (Nat->Int)}{M P:Nat->Int}{k s:Int}{a:Option Addr}{len b off n g i o j:Nat}{w:World}{t:TypeId}{u0 u1 u2 u3 u4 u5 u6 u7 u8 u9 u10 u11 v:Value}{cs X:List Value}{ks:List Int}
theorem zsU(h:zbG Ms=false):zdF Ms=(zdK,1):=by unfold zdF;rw[h];rfl
theorem zhR(h:zbG (M::Ms)=true):zdF (M::Ms)=zcz M Ms:=by unfold zdF;rw[h];rfl
theorem zsV{k:Nat}(h:Ms[k]? =some M)(he:zaG P M=0):zcz P (Ms.drop k)=zcz (zbB P M) (Ms.drop (k+1)):=by
 obtain⟨hk,e⟩:=List.getElem?_eq_some_iff.1 h;rw[drop_eq_getElem_cons hk,e];show (if zaG P M=0 then _ else _)=_
 rw[if_pos he]
theorem zsW{k:Nat}(h:Ms[k]? =some M)(he:zaG P M≠0):zcz P (Ms.drop k)=(zdK,zaG P M):=by
 obtain⟨hk,e⟩:=List.getElem?_eq_some_iff.1 h;rw[drop_eq_getElem_cons hk,e];show (if zaG P M=0 then _ else _)=_
 rw[if_neg he]
theorem zf6{cap:Nat}{b:Bool}(hr:zbG Ms=b)(row:MRow w a len Ms):
  Calls prog 188 #[.slice a len cap] w λe w'=>e= .returned (.bool b)/\Bw w w':=
 (zhO a len cap Ms w row).mono λ_ _ ⟨he,hw⟩=>⟨by rw[he,hr],hw⟩
theorem MRow.tail(h:MRow w (some ⟨b,off,none⟩) (n+1) (M::Ms)):MRow w (some ⟨b,off+12,none⟩) n Ms:=by
 obtain⟨h1,h2,h3⟩:=h;refine⟨by simpa using h1,om,.inr ⟨b,off+12,rfl,λi hi j hj=> ?_⟩⟩;rcases h3 with h3 | ⟨b',dV,e,hc⟩
 ·omega
 ·simp at e;obtain⟨rfl,rfl⟩:=e;have:=hc (i+1) om j hj;rw[show off+(i+1)*12+j=off+12+i*12+j by omega]at this;simpa using this
theorem MRow.head(h:MRow w (some ⟨b,off,none⟩) (n+1) (M::Ms)):w.cell? ⟨b,off,none⟩=some (.int .i64 (M 0))/\w.cell? ⟨b,off+1,none⟩=some (.int .i64 (M 1))/\w.cell? ⟨b,off+2,none⟩=some (.int .i64 (M 2))/\w.cell? ⟨b,off+3,none⟩=some (.int .i64 (M 3))/\w.cell? ⟨b,off+4,none⟩=some (.int .i64 (M 4))/\w.cell? ⟨b,off+5,none⟩=some (.int .i64 (M 5))/\w.cell? ⟨b,off+6,none⟩=some (.int .i64 (M 6))/\w.cell? ⟨b,off+7,none⟩=some (.int .i64 (M 7))/\w.cell? ⟨b,off+8,none⟩=some (.int .i64 (M 8))/\w.cell? ⟨b,off+9,none⟩=some (.int .i64 (M 9))/\w.cell? ⟨b,off+10,none⟩=some (.int .i64 (M 10))/\w.cell? ⟨b,off+11,none⟩=some (.int .i64 (M 11)):=by
 obtain⟨h1,h2,h3⟩:=h;rcases h3 with h3 | ⟨b',dV,e,hc⟩
 ·omega
 ·simp at e;obtain⟨rfl,rfl⟩:=e;have c:=hc 0 om;simp only[Nat.zero_mul,Nat.add_zero]at c;exact⟨c 0 om,c 1 om,c 2 om,c 3 om,c 4 om,c 5 om,c 6 om,c 7 om,c 8 om,c 9 om,c 10 om,c 11 om⟩
theorem Blk.set12{x0 x1 x2 x3 x4 x5 x6 x7 x8 x9 cj DX:Value}(h:Blk w g t #[x0,x1,x2,x3,x4,x5,x6,x7,x8,x9,cj,DX]):Blk ((((((((((((w.setCell ⟨g,0,none⟩ u0).setCell ⟨g,1,none⟩ u1).setCell ⟨g,2,none⟩ u2).setCell ⟨g,3,none⟩ u3).setCell ⟨g,4,none⟩ u4).setCell ⟨g,5,none⟩ u5).setCell ⟨g,6,none⟩ u6).setCell ⟨g,7,none⟩ u7).setCell ⟨g,8,none⟩ u8).setCell ⟨g,9,none⟩ u9).setCell ⟨g,10,none⟩ u10).setCell ⟨g,11,none⟩ u11) g t #[u0,u1,u2,u3,u4,u5,u6,u7,u8,u9,u10,u11]:=by
 have h0:Blk (w.setCell ⟨g,0,none⟩ u0) g t #[u0,x1,x2,x3,x4,x5,x6,x7,x8,x9,cj,DX]:=by simpa using h.set_ 0 u0
 have h1:Blk ((w.setCell ⟨g,0,none⟩ u0).setCell ⟨g,1,none⟩ u1) g t #[u0,u1,x2,x3,x4,x5,x6,x7,x8,x9,cj,DX]:=by simpa using h0.set_ 1 u1
 have h2:Blk (((w.setCell ⟨g,0,none⟩ u0).setCell ⟨g,1,none⟩ u1).setCell ⟨g,2,none⟩ u2) g t #[u0,u1,u2,x3,x4,x5,x6,x7,x8,x9,cj,DX]:=by simpa using h1.set_ 2 u2
 have h3:Blk ((((w.setCell ⟨g,0,none⟩ u0).setCell ⟨g,1,none⟩ u1).setCell ⟨g,2,none⟩ u2).setCell ⟨g,3,none⟩ u3) g t #[u0,u1,u2,u3,x4,x5,x6,x7,x8,x9,cj,DX]:=by simpa using h2.set_ 3 u3
 have h4:Blk (((((w.setCell ⟨g,0,none⟩ u0).setCell ⟨g,1,none⟩ u1).setCell ⟨g,2,none⟩ u2).setCell ⟨g,3,none⟩ u3).setCell ⟨g,4,none⟩ u4) g t #[u0,u1,u2,u3,u4,x5,x6,x7,x8,x9,cj,DX]:=by simpa using h3.set_ 4 u4
 have h5:Blk ((((((w.setCell ⟨g,0,none⟩ u0).setCell ⟨g,1,none⟩ u1).setCell ⟨g,2,none⟩ u2).setCell ⟨g,3,none⟩ u3).setCell ⟨g,4,none⟩ u4).setCell ⟨g,5,none⟩ u5) g t #[u0,u1,u2,u3,u4,u5,x6,x7,x8,x9,cj,DX]:=by simpa using h4.set_ 5 u5
 have h6:Blk (((((((w.setCell ⟨g,0,none⟩ u0).setCell ⟨g,1,none⟩ u1).setCell ⟨g,2,none⟩ u2).setCell ⟨g,3,none⟩ u3).setCell ⟨g,4,none⟩ u4).setCell ⟨g,5,none⟩ u5).setCell ⟨g,6,none⟩ u6) g t #[u0,u1,u2,u3,u4,u5,u6,x7,x8,x9,cj,DX]:=by simpa using h5.set_ 6 u6
 have h7:Blk ((((((((w.setCell ⟨g,0,none⟩ u0).setCell ⟨g,1,none⟩ u1).setCell ⟨g,2,none⟩ u2).setCell ⟨g,3,none⟩ u3).setCell ⟨g,4,none⟩ u4).setCell ⟨g,5,none⟩ u5).setCell ⟨g,6,none⟩ u6).setCell ⟨g,7,none⟩ u7) g t #[u0,u1,u2,u3,u4,u5,u6,u7,x8,x9,cj,DX]:=by simpa using h6.set_ 7 u7
 have h8:Blk (((((((((w.setCell ⟨g,0,none⟩ u0).setCell ⟨g,1,none⟩ u1).setCell ⟨g,2,none⟩ u2).setCell ⟨g,3,none⟩ u3).setCell ⟨g,4,none⟩ u4).setCell ⟨g,5,none⟩ u5).setCell ⟨g,6,none⟩ u6).setCell ⟨g,7,none⟩ u7).setCell ⟨g,8,none⟩ u8) g t #[u0,u1,u2,u3,u4,u5,u6,u7,u8,x9,cj,DX]:=by simpa using h7.set_ 8 u8
 have h9:Blk ((((((((((w.setCell ⟨g,0,none⟩ u0).setCell ⟨g,1,none⟩ u1).setCell ⟨g,2,none⟩ u2).setCell ⟨g,3,none⟩ u3).setCell ⟨g,4,none⟩ u4).setCell ⟨g,5,none⟩ u5).setCell ⟨g,6,none⟩ u6).setCell ⟨g,7,none⟩ u7).setCell ⟨g,8,none⟩ u8).setCell ⟨g,9,none⟩ u9) g t #[u0,u1,u2,u3,u4,u5,u6,u7,u8,u9,cj,DX]:=by simpa using h8.set_ 9 u9
 have ZC:Blk (((((((((((w.setCell ⟨g,0,none⟩ u0).setCell ⟨g,1,none⟩ u1).setCell ⟨g,2,none⟩ u2).setCell ⟨g,3,none⟩ u3).setCell ⟨g,4,none⟩ u4).setCell ⟨g,5,none⟩ u5).setCell ⟨g,6,none⟩ u6).setCell ⟨g,7,none⟩ u7).setCell ⟨g,8,none⟩ u8).setCell ⟨g,9,none⟩ u9).setCell ⟨g,10,none⟩ u10) g t #[u0,u1,u2,u3,u4,u5,u6,u7,u8,u9,u10,DX]:=by simpa using h9.set_ 10 u10
 have QX:Blk ((((((((((((w.setCell ⟨g,0,none⟩ u0).setCell ⟨g,1,none⟩ u1).setCell ⟨g,2,none⟩ u2).setCell ⟨g,3,none⟩ u3).setCell ⟨g,4,none⟩ u4).setCell ⟨g,5,none⟩ u5).setCell ⟨g,6,none⟩ u6).setCell ⟨g,7,none⟩ u7).setCell ⟨g,8,none⟩ u8).setCell ⟨g,9,none⟩ u9).setCell ⟨g,10,none⟩ u10).setCell ⟨g,11,none⟩ u11) g t #[u0,u1,u2,u3,u4,u5,u6,u7,u8,u9,u10,u11]:=by simpa using ZC.set_ 11 u11
 exact QX
theorem Blk.far12{g':Nat}{cs:Array Value}(h:Blk w g t cs)(Hd:g≠g'):Blk ((((((((((((w.setCell ⟨g',0,none⟩ u0).setCell ⟨g',1,none⟩ u1).setCell ⟨g',2,none⟩ u2).setCell ⟨g',3,none⟩ u3).setCell ⟨g',4,none⟩ u4).setCell ⟨g',5,none⟩ u5).setCell ⟨g',6,none⟩ u6).setCell ⟨g',7,none⟩ u7).setCell ⟨g',8,none⟩ u8).setCell ⟨g',9,none⟩ u9).setCell ⟨g',10,none⟩ u10).setCell ⟨g',11,none⟩ u11) g t cs:=((((((((((((h.far (p:=⟨g',0,none⟩) Hd u0).far (p:=⟨g',1,none⟩) Hd u1).far (p:=⟨g',2,none⟩) Hd u2).far (p:=⟨g',3,none⟩) Hd u3).far (p:=⟨g',4,none⟩) Hd u4).far (p:=⟨g',5,none⟩) Hd u5).far (p:=⟨g',6,none⟩) Hd u6).far (p:=⟨g',7,none⟩) Hd u7).far (p:=⟨g',8,none⟩) Hd u8).far (p:=⟨g',9,none⟩) Hd u9).far (p:=⟨g',10,none⟩) Hd u10).far (p:=⟨g',11,none⟩) Hd u11)
theorem zv9(a:Option Addr)(len cap:Nat)(Ms:List (Nat->Int))(w:World)(row:MRow w a len Ms)(h:zbG Ms=false):
  Calls prog 254 #[.slice a len cap] w λe w'=>e= .returned (.tuple #[.agg #[.int .i64 0,.int .i64 0,.int .i64 0,.int .i64 0,.int .i64 0,.int .i64 0,.int .i64 0,.int .i64 0,.int .i64 0,.int .i64 0,.int .i64 0,.int .i64 0],.int .i64 1])/\Bw w w':=by
 have hJ:=kA row;have HO:=kA h;clear row h;go_enter func254,ntmps254;go_wp2_with fail;refine (zf6 HO (zdL hJ (zaa _ _))).mono ?_;rintro e w1 ⟨rfl,b1⟩;have KR:=kA ((Blk.new w 46 _).keep b1);have B1:=kA (zad (zaa _ _) b1);clear b1;obtain⟨c0,c1,c2,c3,c4,c5,c6,c7,c8,c9,c10,c11,f0,f1,f2,f3,f4,f5,f6,f7,f8,f9,f10,f11⟩:=zdE KR;go_wp2;exact bodyPost_ret (v:= .tuple #[.agg #[.int .i64 0,.int .i64 0,.int .i64 0,.int .i64 0,.int .i64 0,.int .i64 0,.int .i64 0,.int .i64 0,.int .i64 0,.int .i64 0,.int .i64 0,.int .i64 0],.int .i64 1]) (by simp[results,results254,go_sem,c0,c1,c2,c3,c4,c5,c6,c7,c8,c9,c10,c11]) rfl ⟨rfl,zdC B1 om⟩
theorem zpV(a:Option Addr)(cap:Nat)(w:World):
  Calls prog 254 #[.slice a 0 cap] w λe w'=>e= .returned (.tuple #[.agg #[.int .i64 65536,.int .i64 0,.int .i64 0,.int .i64 0,.int .i64 0,.int .i64 65536,.int .i64 0,.int .i64 0,.int .i64 0,.int .i64 0,.int .i64 65536,.int .i64 0],.int .i64 0])/\Bw w w':=by
 go_enter func254,ntmps254;go_wp2_with fail;refine (zf6 (Ms:=[]) (len:=0) rfl ⟨rfl,om,.inl rfl⟩).mono ?_;rintro e w1 ⟨rfl,b1⟩;have KR:=kA ((Blk.new w 46 _).keep b1);have B1:=kA (zad (zaa _ _) b1);clear b1;go_wp2_with fail;refine (zmH _).mono ?_;rintro e w2 ⟨rfl,b2⟩;replace KR:=kA (KR.keep b2);replace B1:=kA (zad B1 b2);clear b2;obtain⟨c0,c1,c2,c3,c4,c5,c6,c7,c8,c9,c10,c11,f0,f1,f2,f3,f4,f5,f6,f7,f8,f9,f10,f11⟩:=zdE KR;go_wp2;exact bodyPost_ret (v:= .tuple #[.agg #[.int .i64 65536,.int .i64 0,.int .i64 0,.int .i64 0,.int .i64 0,.int .i64 65536,.int .i64 0,.int .i64 0,.int .i64 0,.int .i64 0,.int .i64 65536,.int .i64 0],.int .i64 0]) (by simp[results,results254,go_sem,c0,c1,c2,c3,c4,c5,c6,c7,c8,c9,c10,c11]) rfl ⟨rfl,zdC B1 om⟩
theorem zpW(b off n cap:Nat)(M:Nat->Int)(Ms:List (Nat->Int))(w:World)(row:MRow w (some ⟨b,off,none⟩) (n+1) (M::Ms))(hcap:n+1<=cap)(Hy:cap<=9223372036854775807)(h:zbG (M::Ms)=true):
  Calls prog 254 #[.slice (some ⟨b,off,none⟩) (n+1) cap] w λe w'=>e= .returned (.tuple #[.agg #[.int .i64 ((zcz M Ms).1 0),.int .i64 ((zcz M Ms).1 1),.int .i64 ((zcz M Ms).1 2),.int .i64 ((zcz M Ms).1 3),.int .i64 ((zcz M Ms).1 4),.int .i64 ((zcz M Ms).1 5),.int .i64 ((zcz M Ms).1 6),.int .i64 ((zcz M Ms).1 7),.int .i64 ((zcz M Ms).1 8),.int .i64 ((zcz M Ms).1 9),.int .i64 ((zcz M Ms).1 10),.int .i64 ((zcz M Ms).1 11)],.int .i64 (zcz M Ms).2])/\Bw w w':=by
 have hJ:=kA row;have HO:=kA h;clear row h;go_enter func254,ntmps254;go_wp2_with fail;refine (zf6 HO (zdL hJ (zaa _ _))).mono ?_;rintro e w1 ⟨rfl,b1⟩;have KR:=kA ((Blk.new w 46 _).keep b1);have B1:=kA (zad (zaa _ _) b1);clear b1;obtain⟨m0,m1,m2,m3,m4,m5,m6,m7,m8,m9,m10,m11⟩:=(zdL hJ B1).head
 by_cases Dd:cap=1
 ·obtain rfl:n=0:=om;subst Dd;obtain rfl:Ms=[]:=eq_nil_of_length_eq_zero (by have:=hJ.1;simpa using this);go_wp2;refine wp_loop_rounds 1 ?_;rw[rounds_succ];clear m0 m1 m2 m3 m4 m5 m6 m7 m8 m9 m10 m11;refine fin (λW=>Blk W w.heap.size 46 #[.int .i64 0,.int .i64 0,.int .i64 0,.int .i64 0,.int .i64 0,.int .i64 0,.int .i64 0,.int .i64 0,.int .i64 0,.int .i64 0,.int .i64 0,.int .i64 0]/\Blk W w1.heap.size 46 #[.int .i64 (M 0),.int .i64 (M 1),.int .i64 (M 2),.int .i64 (M 3),.int .i64 (M 4),.int .i64 (M 5),.int .i64 (M 6),.int .i64 (M 7),.int .i64 (M 8),.int .i64 (M 9),.int .i64 (M 10),.int .i64 (M 11)]/\Bw w W) ⟨KR.alloc _,Blk.new w1 _ _,zag B1 _⟩ ?_;rintro W ⟨Cd,xw,Hv⟩;have HB:=kA Hv;clear Hv;obtain⟨o0,o1,o2,o3,o4,o5,o6,o7,o8,o9,ND,NE,_,_,_,_,_,_,_,_,_,_,_,_⟩:=zdE xw;obtain⟨c0,c1,c2,c3,c4,c5,c6,c7,c8,c9,c10,c11,f0,f1,f2,f3,f4,f5,f6,f7,f8,f9,f10,f11⟩:=zdE Cd;go_wp2;exact bodyPost_ret (v:= .tuple #[.agg #[.int .i64 (M 0),.int .i64 (M 1),.int .i64 (M 2),.int .i64 (M 3),.int .i64 (M 4),.int .i64 (M 5),.int .i64 (M 6),.int .i64 (M 7),.int .i64 (M 8),.int .i64 (M 9),.int .i64 (M 10),.int .i64 (M 11)],.int .i64 0]) (by simp[results,results254,go_sem,c0,c1,c2,c3,c4,c5,c6,c7,c8,c9,c10,c11]) rfl ⟨rfl,zdC HB om⟩
 go_wp2
 go_loopw [6,7,23] (λ_ _ i wr=>∃k:Nat,∃P:Nat->Int,k<=n/\i= .int .i64 k/\zcz M Ms=zcz P (Ms.drop k)/\BM wr w1.heap.size P/\Blk wr w.heap.size 46 #[.int .i64 0,.int .i64 0,.int .i64 0,.int .i64 0,.int .i64 0,.int .i64 0,.int .i64 0,.int .i64 0,.int .i64 0,.int .i64 0,.int .i64 0,.int .i64 0]/\Bw w wr) (λ_ _ i _=>n - (intOf i).toNat)
 case atStart=>exact⟨0,M,om,rfl,rfl,Blk.new w1 _ _,KR.alloc _,zag B1 _⟩
 case round=>
  have Hd:w.heap.size<w1.heap.size:=KR.lt;have hle:w.heap.size<=w1.heap.size:=B1.size;clear KR B1 m0 m1 m2 m3 m4 m5 m6 m7 m8 m9 m10 m11;obtain⟨k,P,hk,rfl,hf,hp,Kr,hb⟩:=hrel;have HF:=kA hf;have HP:=kA hp;have kL:=kA Kr;have HB:=kA hb;clear hf hp Kr hb
  by_cases hlt:k<n
  ·obtain⟨b',dV,N,e,hv,m0,m1,m2,m3,m4,m5,m6,m7,m8,m9,m10,m11⟩:=(zdL hJ HB).tail.at_ hlt;simp at e;obtain⟨rfl,rfl⟩:=e;have HV:=kA hv;clear hv;obtain⟨p0,p1,p2,p3,p4,p5,p6,p7,p8,p9,NG,p11,_,_,_,_,_,_,_,_,_,_,_,_⟩:=zdE HP;have zp:=HP.lt;go_wp2_with fail;refine (zsT P N _).mono ?_;rintro e w2 ⟨rfl,b2⟩;have Xg:=kA (Blk.keep (Blk.alloc HP _) b2);have kK:=kA ((kL.alloc _).keep b2);have Hm:=kA (zad (zag HB _) b2);clear b2 m0 m1 m2 m3 m4 m5 m6 m7 m8 m9 m10 m11 p0 p1 p2 p3 p4 p5 p6 p7 p8 p9 NG p11 zp HP kL HB;obtain⟨y,hy⟩:∃y,y=zaG P N:=⟨_,rfl⟩;have HY:=kA hy;rw[<-hy];clear hy
   by_cases he:y=0
   ·have dw:=kA he;have xz:(y != 0)=false:=by rw[he];rfl
    clear he;obtain⟨p0,p1,p2,p3,p4,p5,p6,p7,p8,p9,NG,p11,q0,q1,q2,q3,q4,q5,q6,q7,q8,q9,gM,gN⟩:=zdE Xg;have zp:=Xg.lt;go_wp2;go_roundw
    case rel=>
     refine⟨_,_,_,_,_,_,_,_,_,_,_,_,_,_,_,_,_,_,_,_,?_,rfl⟩;exact⟨k+1,zbB P N,om,by go_num,by rw[HF.out];exact zsV HV (by rw[<-HY.out];exact dw),(Blk.set12 Xg).alloc _,(kK.far12 om).alloc _,zag (zdC Hm om) _⟩
    case measure=>simp[intOf] <;> omega
   ·have dw:=kA he;have xz:(y != 0)=true:=by simpa using he
    clear he Xg;have zr:=kK.lt;obtain⟨c0,c1,c2,c3,c4,c5,c6,c7,c8,c9,c10,c11,f0,f1,f2,f3,f4,f5,f6,f7,f8,f9,f10,f11⟩:=zdE kK;go_wp2;refine fin (λW=>Blk W w.heap.size 46 #[.int .i64 0,.int .i64 0,.int .i64 0,.int .i64 0,.int .i64 0,.int .i64 0,.int .i64 0,.int .i64 0,.int .i64 0,.int .i64 0,.int .i64 0,.int .i64 0]/\Bw w W) ⟨(Blk.set12 kK).alloc _,zag (zdC Hm om) _⟩ ?_;rintro W ⟨Cd,Hv⟩;clear c0 c1 c2 c3 c4 c5 c6 c7 c8 c9 c10 c11 f0 f1 f2 f3 f4 f5 f6 f7 f8 f9 f10 f11;obtain⟨c0,c1,c2,c3,c4,c5,c6,c7,c8,c9,c10,c11,_,_,_,_,_,_,_,_,_,_,_,_⟩:=zdE Cd;have e1:zcz M Ms=(zdK,y):=by rw[HF.out,HY.out];exact zsW HV (by rw[<-HY.out];exact dw)
    exact bodyPost_ret (v:= .tuple #[.agg #[.int .i64 0,.int .i64 0,.int .i64 0,.int .i64 0,.int .i64 0,.int .i64 0,.int .i64 0,.int .i64 0,.int .i64 0,.int .i64 0,.int .i64 0,.int .i64 0],.int .i64 y]) (by simp[results,results254,go_sem,c0,c1,c2,c3,c4,c5,c6,c7,c8,c9,c10,c11]) rfl ⟨by rw[e1];rfl,Hv⟩
  ·obtain rfl:k=n:=om;have e1:zcz M Ms=(P,0):=by rw[HF.out,drop_of_length_le (by have:=hJ.1;simp at this;omega)];rfl
   have HE:=kA e1;clear e1;obtain⟨o0,o1,o2,o3,o4,o5,o6,o7,o8,o9,ND,NE,_,_,_,_,_,_,_,_,_,_,_,_⟩:=zdE HP;obtain⟨c0,c1,c2,c3,c4,c5,c6,c7,c8,c9,c10,c11,f0,f1,f2,f3,f4,f5,f6,f7,f8,f9,f10,f11⟩:=zdE kL;go_wp2;exact bodyPost_ret (v:= .tuple #[.agg #[.int .i64 (P 0),.int .i64 (P 1),.int .i64 (P 2),.int .i64 (P 3),.int .i64 (P 4),.int .i64 (P 5),.int .i64 (P 6),.int .i64 (P 7),.int .i64 (P 8),.int .i64 (P 9),.int .i64 (P 10),.int .i64 (P 11)],.int .i64 0]) (by simp[results,results254,go_sem,c0,c1,c2,c3,c4,c5,c6,c7,c8,c9,c10,c11]) rfl ⟨by rw[HE.out],zdC HB om⟩
theorem zsX(a:Option Addr)(len cap:Nat)(Ms:List (Nat->Int))(w:World)(row:MRow w a len Ms)(hcap:len<=cap)(Hy:cap<=9223372036854775807):
  Calls prog 254 #[.slice a len cap] w λe w'=>e= .returned (.tuple #[.agg #[.int .i64 ((zdF Ms).1 0),.int .i64 ((zdF Ms).1 1),.int .i64 ((zdF Ms).1 2),.int .i64 ((zdF Ms).1 3),.int .i64 ((zdF Ms).1 4),.int .i64 ((zdF Ms).1 5),.int .i64 ((zdF Ms).1 6),.int .i64 ((zdF Ms).1 7),.int .i64 ((zdF Ms).1 8),.int .i64 ((zdF Ms).1 9),.int .i64 ((zdF Ms).1 10),.int .i64 ((zdF Ms).1 11)],.int .i64 (zdF Ms).2])/\Bw w w':=by
 by_cases h:zbG Ms=true
 ·match Ms,row,h with
  | [],row,h=>
   have e:=row.1;simp at e;subst e;exact zpV a cap w
  | M::Ms,row,h=>
   have e:=row.1;obtain⟨n,rfl⟩:∃n,len=n+1:=⟨Ms.length,by simpa using e.symm⟩;obtain⟨b,off,rfl⟩:∃b off,a=some ⟨b,off,none⟩:=by
    rcases row.2.2 with h0 | ⟨b,off,e,_⟩
    ·omega
    ·exact⟨b,off,e⟩
   rw[zhR h];exact zpW b off n cap M Ms w row hcap Hy h
 ·have h':zbG Ms=false:=by simpa using h
  rw[zsU h'];exact zv9 a len cap Ms w row h'
theorem zwa(zs:List Int):okB (zio zs)=true:=by
 unfold zio
 by_cases h:zdI zs=true
 ·rw[if_pos h];unfold zk6
  by_cases h':okB zs.sum=true
  ·rw[if_pos h'];exact h'
  ·rw[if_neg h'];decide
 ·rw[if_neg h];decide
theorem zyi(M:Nat->Int)(r:Nat)(V:Nat->Int)(l:Int):okB (alV M r V l)=true:=by
 unfold alV
 by_cases h:alF M r V=0
 ·rw[if_pos h];exact zwa _
 ·rw[if_neg h];decide
theorem zsY(A B:Nat->Int):okM (zbB A B)=true:=zyf λk _=>by
 unfold zbB zpn
 by_cases h:zaG A B=0
 ·rw[if_pos h];exact zyi _ _ _ _
 ·rw[if_neg h];decide
open Go.ChangeShapes Go.WideShapes Go.ChangeAt Go.RowKit Go.Deep
theorem zzN{A B:Nat->Int}(h:Blk w g t #[.int .i64 (A 0),.int .i64 (A 1),.int .i64 (A 2),.int .i64 (A 3),.int .i64 (A 4),.int .i64 (A 5),.int .i64 (A 6),.int .i64 (A 7),.int .i64 (A 8),.int .i64 (A 9),.int .i64 (A 10),.int .i64 (A 11),.int .i64 (B 0),.int .i64 (B 1),.int .i64 (B 2),.int .i64 (B 3),.int .i64 (B 4),.int .i64 (B 5),.int .i64 (B 6),.int .i64 (B 7),.int .i64 (B 8),.int .i64 (B 9),.int .i64 (B 10),.int .i64 (B 11)]):MRow w (some ⟨g,0,none⟩) 2 [A,B]:=by
 refine⟨rfl,om,.inr ⟨_,_,rfl,λi hi j hj=> ?_⟩⟩;obtain rfl | rfl:i=0∨i=1:=om
 ·rcases zv5 hj with rfl | rfl | rfl | rfl | rfl | rfl | rfl | rfl | rfl | rfl | rfl | rfl
  ·exact h.cell 0
  ·exact h.cell 1
  ·exact h.cell 2
  ·exact h.cell 3
  ·exact h.cell 4
  ·exact h.cell 5
  ·exact h.cell 6
  ·exact h.cell 7
  ·exact h.cell 8
  ·exact h.cell 9
  ·exact h.cell 10
  ·exact h.cell 11
 ·rcases zv5 hj with rfl | rfl | rfl | rfl | rfl | rfl | rfl | rfl | rfl | rfl | rfl | rfl
  ·exact h.cell 12
  ·exact h.cell 13
  ·exact h.cell 14
  ·exact h.cell 15
  ·exact h.cell 16
  ·exact h.cell 17
  ·exact h.cell 18
  ·exact h.cell 19
  ·exact h.cell 20
  ·exact h.cell 21
  ·exact h.cell 22
  ·exact h.cell 23
section
variable {H:Type} {enc:TypeId × Value->H} {w:World} {base:Nat} {spare:Nat->Bool} {held:Bool}
theorem zmJ(h:(cs.drop i).take 1=[v]):cs[i]? =some v:=by
 have e:=congrArg (λl=>l[0]?) h;simpa using e
theorem zjJ{e:TypeId}{k:IntKind}{fuel:Nat}{x:DataW H × List MemPlace}(ht:prog.underlying t=some (.array n e))(he:prog.underlying e=some (.int k))(hc:prog.cellsOf e=1)
  (h:DataW.trod enc prog w base spare held fuel t cs=some x):∃M:Nat->Int,∀i,i<n->cs[i]? =some (.int k (M i))/\(Lit.int k (M i)).wf=true:=by
 obtain⟨xs,m,_,_,_,CO,hx⟩:=DataW.trod_array ht h;rw[hc]at hx;refine choose_lt (α:=Int) (n:=n) (p:=λi v=>cs[i]? =some (.int k v)/\(Lit.int k v).wf=true) (λi hi=> ?_);have e0:xs[i]? =some (xs[i]'(by omega)):=getElem?_eq_getElem om;obtain⟨v,ev,_,wv⟩:=DataW.trod_int he ((hx i hi).trans e0);rw[Nat.mul_one]at ev;exact⟨v,zmJ ev,wv⟩
end
def zx7(cs:List Value)(n:Nat)(M:Nat->Int):Prop:=∀i,i<n->cs[i]? =some (.int .i64 (M i))
theorem zd4(h:zx7 ((cs.drop o).take n) n M){i:Nat}(hi:i<n):cs[o+i]? =some (.int .i64 (M i)):=by
 have:=h i hi;rw[getElem?_take,if_pos hi,getElem?_drop]at this;exact this
theorem zpX{m:Nat}{N:Nat->Int}(h:zx7 ((cs.drop 0).take n) n M)(k:zx7 ((cs.drop n).take m) m N):zx7 cs (n+m) (λi=>if i<n then M i else N (i - n)):=λi hi=>by
 show cs[i]? =some (.int .i64 (if i<n then M i else N (i - n)))
 by_cases c:i<n
 ·rw[if_pos c];have:=zd4 h c
  rwa [Nat.zero_add]at this
 ·rw[if_neg c];have:=zd4 k (i:=i - n) om
  rwa [show n+(i - n)=i by omega]at this
section
variable {H:Type} {enc:TypeId × Value->H} {w:World} {base:Nat} {spare:Nat->Bool} {held:Bool}
theorem zmK{fuel:Nat}{x:DataW H × List MemPlace}(h:DataW.trod enc prog w base spare held fuel 48 cs=some x):∃M,zx7 cs 3 M:=by
 obtain⟨M,hM⟩:=zjJ underlying48 underlying44 oM h;exact⟨M,λi hi=>(hM i hi).1⟩
theorem zsZ{fuel:Nat}{x:DataW H × List MemPlace}(h:DataW.trod enc prog w base spare held fuel 50 cs=some x):∃M,zx7 cs 6 M:=by
 obtain⟨xs,n,_,_,_,CO,hx⟩:=DataW.trod_struct underlying50 h;have ZD:xs.length=2:=CO;have hC:prog.cellsOf 48=3:=oM;have h0:DataW.trod enc prog w base spare held n 48 ((cs.drop 0).take 3)=some (xs[0]'(by omega)):=by
  rw[<-hC];exact (hx 0 _ rfl).trans (getElem?_eq_getElem om)
 have h1:DataW.trod enc prog w base spare held n 48 ((cs.drop 3).take 3)=some (xs[1]'(by omega)):=by
  have:=(hx 1 _ rfl).trans (getElem?_eq_getElem (show 1<xs.length by omega));exact (congrArg (λc=>DataW.trod enc prog w base spare held n 48 ((cs.drop 3).take c)) hC.symm).trans this
 obtain⟨M,hM⟩:=zmK h0;obtain⟨N,hN⟩:=zmK h1;exact⟨_,zpX hM hN⟩
end
theorem zjK(x:Int):(BitVec.ofInt 64 x).toNat=(x % 18446744073709551616).toNat:=by
 rw[BitVec.toNat_ofInt];rfl
def zaW(s:Int)(k:Nat):Bool:=decide (s / 2 ^ k % 2=1)
def zcl(s k:Int):Bool:=decide (0<=k) && decide (k<=4) && zaW s k.toNat
theorem zcq{k:Nat}(h:k<=4):zcl s k=zaW s k:=by
 unfold zcl;rw[show decide ((0:Int)<=(k:Int))=true by simp,show decide ((k:Int)<=4)=true by simp;omega];simp
def inB(n m:Int):Bool:=decide (0<=n) && decide (n<=m)
def zaM(X:List Value)(o:Nat)(vs:List Value):List Value:=X.take o++vs++X.drop (o+vs.length)
theorem zb8{vs:List Value}(h:o+vs.length<=X.length):(zaM X o vs).length=X.length:=by
 unfold zaM;simp;omega
theorem zan{Z:List Value}(h:X.length=Z.length):zaM Z 0 X=X:=by
 unfold zaM;rw[h];simp
theorem zaH(h:Blk w g t X.toArray)(o n:Nat):w.rangeAt g o ((X.drop o).take n):=λj v hv=>by
 rw[h.cell (o+j)];rw[getElem?_take]at hv
 by_cases c:j<n
 ·rw[if_pos c,getElem?_drop]at hv;simpa using hv
 ·rw[if_neg c]at hv;cases hv
theorem zac(h:Blk w g t X.toArray):w.rangeAt g 0 X:=λj v hv=>by
 rw[h.cell (0+j)];simpa using hv
theorem zae(h:Blk w g t X.toArray){o n:Nat}(hn:o+n<=X.length):w.there g o n:=λj hj=>by
 refine⟨?_,h.frozen _⟩;rw[h.cell (o+j)];simp[getElem?_eq_getElem (show o+j<X.length by omega)]
theorem zaf:∀ (vs:List Value) {w:World} {g:Nat} {t:TypeId} {X:List Value} {o:Nat},Blk w g t X.toArray->o+vs.length<=X.length->Blk (w.setCells g o vs) g t (zaM X o vs).toArray
 | [],w,g,t,X,o,h,_=>by
  have e:zaM X o []=X:=by unfold zaM;simp
  rw[e];exact h
 | v::vs,w,g,t,X,o,h,hn=>by
  have h1:Blk (w.setCell ⟨g,o,none⟩ v) g t (X.set o v).toArray:=by
   have:=h.set_ o v;simpa using this
  have h2:=zaf vs (o:=o+1) h1 (by simp at hn ⊢;omega);have e:zaM (X.set o v) (o+1) vs=zaM X o (v::vs):=by
   have ho:o<X.length:=by simp at hn;omega
   have ht:(X.take (o+1)).set o v=X.take o++[v]:=by
    rw[take_add_one,getElem?_eq_getElem ho,set_append,if_neg (by simp;omega),show o - (X.take o).length=0 by simp;omega];rfl
   unfold zaM;rw[take_set,drop_set,if_pos om,ht];simp[Nat.add_assoc,Nat.add_comm 1]
  rw[e]at h2;exact h2
theorem zat:∀ (vs:List Value) {w:World} {g g':Nat} {t:TypeId} {C:Array Value} {o:Nat},Blk w g t C->g≠g'->Blk (w.setCells g' o vs) g t C
 | [],_,_,_,_,_,_,h,_=>h
 | v::vs,_,_,g',_,_,o,h,Hd=>zat vs (h.far (p:=⟨g',o,none⟩) Hd v) Hd
theorem zab:∀ (vs:List Value) {B:Nat} {a w:World} {g o:Nat},Below B a w->B<=g->Below B a (w.setCells g o vs)
 | [],_,_,_,_,_,h,_=>h
 | v::vs,_,_,_,g,o,h,hg=>zab vs (h.setCell (p:=⟨g,o,none⟩) hg v) hg
def PL(h:Int)(M:Nat->Int)(m:Int)(B:Nat->Int)(p a:Int)(c:Bool)(l:Int):List Value:=[.int .i64 h,.int .i64 (M 0),.int .i64 (M 1),.int .i64 (M 2),.int .i64 (M 3),.int .i64 (M 4),.int .i64 (M 5),.int .i64 (M 6),.int .i64 (M 7),.int .i64 (M 8),.int .i64 (M 9),.int .i64 (M 10),.int .i64 (M 11),.int .i64 m,.int .i64 (B 0),.int .i64 (B 1),.int .i64 (B 2),.int .i64 (B 3),.int .i64 (B 4),.int .i64 (B 5),.int .i64 p,.int .i64 a,.bool c,.int .i64 l]
theorem zyj(h:Int)(M:Nat->Int)(m:Int)(B:Nat->Int)(p a:Int)(c:Bool)(l:Int):(PL h M m B p a c l).length=24:=rfl
theorem zfI(h:Int)(M:Nat->Int)(m:Int)(B:Nat->Int)(p a:Int)(c:Bool)(l:Int):(PL h M m B p a c l).toArray.all (·.oneCell')=true:=all_oneCell_toArray (λv hv=>by
 unfold PL at hv;simp only[mem_cons,not_mem_nil,or_false]at hv
 rcases hv with rfl | rfl | rfl | rfl | rfl | rfl | rfl | rfl | rfl | rfl | rfl | rfl | rfl | rfl | rfl | rfl | rfl | rfl | rfl | rfl | rfl | rfl | rfl | rfl <;> rfl)
theorem zb9(h:Int)(M:Nat->Int)(m:Int)(B:Nat->Int)(p a:Int)(c:Bool)(l:Int):(prog.info? 52).map (·.size)=some (PL h M m B p a c l).length:=by rw[zyj];kernel_rfl
def Z24:List Value:=PL 0 (λ_=>0) 0 (λ_=>0) 0 0 false 0
theorem zaD{fn:Func}{tmps:Array Value}{s:Tmp}(hr:fn.results= #[.cell s t])(hp:tmps.getD s undef= .pointer (some ⟨g,0,none⟩))(hl:(loadVar t ⟨g,0,none⟩).run prog w= .ok v w):(results fn tmps).run prog w= .ok v w:=by
 unfold results;rw[hr];have hp':tmps[s]?.getD undef= .pointer (some ⟨g,0,none⟩):=by simpa using hp
 simp[hp',hl,asAddr]
theorem zam{fn:Func}{tmps:Array Value}{s r:Tmp}{u:Value}(hr:fn.results= #[.cell s t,.tmp r])(hp:tmps.getD s undef= .pointer (some ⟨g,0,none⟩))(hu:tmps.getD r undef=u)(hl:(loadVar t ⟨g,0,none⟩).run prog w= .ok v w):(results fn tmps).run prog w= .ok (.tuple #[v,u]) w:=by
 unfold results;rw[hr];have hp':tmps[s]?.getD undef= .pointer (some ⟨g,0,none⟩):=by simpa using hp
 have ZE:tmps[r]?.getD undef=u:=by simpa using hu
 simp[hp',ZE,hl,asAddr]
def zzO(k:Int)(X Y:List Value):List Value:=
 if k=0 then zaM X 1 ((Y.drop 1).take 12) else if k=1 then X.take 13++(Y.drop 13).take 7++X.drop 20 else if k=2 then X.take 20++(Y.drop 20).take 3++X.drop 23 else if k=3 then X.take 23++Y.drop 23 else X
def kOk(k:Int):Bool:=decide (0<=k) && decide (k<=4)
def zhS(s k:Int):Int:=if zcl s k then s else s+2 ^ k.toNat
def zeb(ks:List Int):Bool:=ks.all kOk
def ksS(ks:List Int):Int:=ks.foldl zhS 0
def ksE(ks:List Int):Int:=if zeb ks then 0 else 1
def ksV(ks:List Int):Int:=if zeb ks then ksS ks else 0
theorem zbf(h:kOk k=true):k=0∨k=1∨k=2∨k=3∨k=4:=by
 unfold kOk at h;simp at h;omega
theorem zd5(hs:0<=s/\s<=31)(hk:kOk k=true):0<=zhS s k/\zhS s k<=31:=by
 unfold zhS
 by_cases c:zcl s k=true
 ·rw[if_pos c];exact hs
 ·rw[if_neg c];have c':zcl s k=false:=by simpa using c
  rcases zbf hk with rfl | rfl | rfl | rfl | rfl
  ·have:¬(s % 2=1):=by simpa[zcl,zaW] using c'
   show 0<=s+1/\s+1<=31;omega
  ·have:¬(s / 2 % 2=1):=by simpa[zcl,zaW] using c'
   show 0<=s+2/\s+2<=31;omega
  ·have:¬(s / 4 % 2=1):=by simpa[zcl,zaW] using c'
   show 0<=s+4/\s+4<=31;omega
  ·have:¬(s / 8 % 2=1):=by simpa[zcl,zaW] using c'
   show 0<=s+8/\s+8<=31;omega
  ·have:¬(s / 16 % 2=1):=by simpa[zcl,zaW] using c'
   show 0<=s+16/\s+16<=31;omega
theorem zir:∀ (ks:List Int) (s:Int),0<=s/\s<=31->zeb ks=true->0<=ks.foldl zhS s/\ks.foldl zhS s<=31
 | [],s,hs,_=>hs
 | k::r,s,hs,h=>by
  unfold zeb at h;rw[all_cons,Bool.and_eq_true]at h;exact zir r (zhS s k) (zd5 hs h.1) h.2
theorem zwb(h:ks[j]? =some k):ksS (ks.take (j+1))=zhS (ksS (ks.take j)) k:=by
 unfold ksS;rw[take_add_one,h,foldl_append];rfl
theorem zpY(h:ks[j]? =some k)(hr:zeb (ks.take j)=true)(hk:kOk k=true):zeb (ks.take (j+1))=true:=by
 unfold zeb at hr ⊢;rw[take_add_one,all_append,hr,h];simpa using hk
theorem zmL(h:ks[j]? =some k)(hk:kOk k=false):zeb ks=false:=by
 unfold zeb;rw[all_eq_false];exact⟨k,mem_of_getElem? h,by simpa using hk⟩
theorem zlk{zs:List Int}(h:Row w a len zs){k:Nat}(hk:k<len):∃b off x,a=some ⟨b,off,none⟩/\zs[k]? =some x/\w.cell? ⟨b,off+k,none⟩=some (.int .i64 x):=by
 obtain⟨h1,h2,h3⟩:=h;rcases h3 with h3 | ⟨b,off,rfl,hc⟩
 ·omega
 ·have KV:k<zs.length:=om;have c:=hc k hk;rw[show zs.getD k 0=zs[k] by simp[getD,getElem?_eq_getElem KV]]at c;exact⟨b,off,_,rfl,getElem?_eq_getElem KV,c⟩
end Go.Proofs.YtlibdcmcbinfnaaGreat
