/- Lemmas. -/
import Derived.Test.YtlibdcmcbinfnaaGreatMS00
import Derived.Deep.QuietTactic
import Derived.ProofKit
import Derived.Deep.Slices
import Derived.Laws.IdiomArrays
set_option maxHeartbeats 100000000
set_option maxRecDepth 1000000
namespace Go.Proofs.YtlibdcmcbinfnaaGreat
open _root_.Go.Proofs.Tryz List Nat
open Go.RowKit
variable{w w':World}{g k len cap:Nat}{t:TypeId}{N B M:Nat->Int}{x0 x1 x2 x3 x4 x5 u0 u1 u2 u3 u4 u5:Value}{a:Option Addr}{Ms Bs:List (Nat->Int)}
theorem Blk.drewN{cs:Array Value}(h:Blk w g t cs)(n:Nat):Blk (w.drewN n) g t cs:=h
def zbV(f:Nat->Int)(k j:Nat):Value:=if j<k then .int .i64 (f j) else .int .i64 0
theorem zdF(f:Nat->Int)(k j:Nat):(if j=k then Value.int .i64 (f k) else zbV f k j)=zbV f (k+1) j:=by
 unfold zbV
 by_cases e:j=k
 ·subst e;rw[if_pos rfl,if_pos om]
 ·rw[if_neg e]
  by_cases e2:j<k
  ·rw[if_pos e2,if_pos om]
  ·rw[if_neg e2,if_neg om]
theorem zhI(w:World)(t:TypeId)(f:Nat->Int):(w.alloc (.cells #[.int .i64 0,.int .i64 0,.int .i64 0] t)).rowIs w.heap.size t 3 (zbV f 0):=by
 refine (World.rowIs_alloc w _ t (zbV f 0) (λi hi=> ?_));obtain rfl | rfl | rfl:i=0∨i=1∨i=2:=by simp at hi;omega
 ·rfl
 ·rfl
 ·rfl
theorem zeA{e:Nat->Int}(h:∀j,j<k->e j=0)(he:e k=0):∀j,j<k+1->e j=0:=λi hi=>by
 by_cases c:i=k
 ·rw[c];exact he
 ·exact h i om
open Go.ChangeShapes Go.WideShapes Go.ChangeAt Go.RowKit Go.Deep
theorem lt6(hk:k<6):k=0∨k=1∨k=2∨k=3∨k=4∨k=5:=om
theorem Blk.atv{V:Nat->Int}(h:Blk w g t #[.int .i64 (V 0),.int .i64 (V 1),.int .i64 (V 2)]){k:Nat}(hk:k<3):w.cell? ⟨g,k,none⟩=some (.int .i64 (V k)):=by
 obtain rfl | rfl | rfl:k=0∨k=1∨k=2:=om
 ·exact h.cell 0
 ·exact h.cell 1
 ·exact h.cell 2
def zhu(B:Nat->Int):Nat->Bool
 | 0=>zbU [(B 0,B 1,B 2),(B 3,B 4,B 5)]
 | k+1=>zhu B k && decide (B k<=B (3+k))
def zcm(B:Nat->Int):Bool:=zhu B 3
def zef(P:Nat->Int):Bool:=zaK [P 0,P 1,P 2,P 3]
theorem row4{P:Nat->Int}(h:Blk w g t #[.int .i64 (P 0),.int .i64 (P 1),.int .i64 (P 2),.int .i64 (P 3)]):Row w (some ⟨g,0,none⟩) 4 [P 0,P 1,P 2,P 3]:=by
 refine⟨rfl,om,.inr ⟨_,_,rfl,λi hi=> ?_⟩⟩;obtain rfl | rfl | rfl | rfl:i=0∨i=1∨i=2∨i=3:=om
 ·exact h.cell 0
 ·exact h.cell 1
 ·exact h.cell 2
 ·exact h.cell 3
def enX(N B:Nat->Int)(k:Nat):Int:=zkW (N k) (B k)
def enY(N B:Nat->Int)(k:Nat):Int:=zkW (N k) (B (3+k))
def zgn(N B:Nat->Int)(k:Nat):Bool:=(zea (N k) (B k) != 0) || (zea (N k) (B (3+k)) != 0)
def zpG(N B:Nat->Int)(t:Int):List Int:=[t,min (enX N B 0) (enY N B 0),min (enX N B 1) (enY N B 1),min (enX N B 2) (enY N B 2)]
def zpH(N B:Nat->Int)(t:Int):List Int:=[t,max (enX N B 0) (enY N B 0),max (enX N B 1) (enY N B 1),max (enX N B 2) (enY N B 2)]
def enE(N B:Nat->Int)(t:Int):Int:=if zgn N B 0 || zgn N B 1 || zgn N B 2 then 6 else if (zfh (zpG N B t) != 0) || (zfh (zpH N B t) != 0) then 6 else 0
def zvW(N B:Nat->Int)(t:Int):Int:=zph (enE N B t) (zik (zpG N B t))
def zvX(N B:Nat->Int)(t:Int):Int:=zph (enE N B t) (zik (zpH N B t))
theorem zjw{t:Int}(h:enE N B t=6):zvW N B t=0/\zvX N B t=0:=by unfold zvW zvX;rw[h];exact⟨rfl,rfl⟩
theorem zpI{t:Int}(h:zgn N B k=true)(hk:k<3):enE N B t=6:=by
 unfold enE;obtain rfl | rfl | rfl:k=0∨k=1∨k=2:=om
 ·rw[if_pos (by rw[h];rfl)]
 ·rw[if_pos (by rw[h,Bool.or_true];rfl)]
 ·rw[if_pos (by rw[h,Bool.or_true])]
theorem zdB{x6 x7 x8 x9 Dc dZ:Value}(h:Blk w g t #[x0,x1,x2,x3,x4,x5,x6,x7,x8,x9,Dc,dZ]):w.cell? ⟨g,0,none⟩=some x0/\w.cell? ⟨g,1,none⟩=some x1/\w.cell? ⟨g,2,none⟩=some x2/\w.cell? ⟨g,3,none⟩=some x3/\w.cell? ⟨g,4,none⟩=some x4/\w.cell? ⟨g,5,none⟩=some x5/\w.cell? ⟨g,6,none⟩=some x6/\w.cell? ⟨g,7,none⟩=some x7/\w.cell? ⟨g,8,none⟩=some x8/\w.cell? ⟨g,9,none⟩=some x9/\w.cell? ⟨g,10,none⟩=some Dc/\w.cell? ⟨g,11,none⟩=some dZ/\w.frozen? ⟨g,0,none⟩=false/\w.frozen? ⟨g,1,none⟩=false/\w.frozen? ⟨g,2,none⟩=false/\w.frozen? ⟨g,3,none⟩=false/\w.frozen? ⟨g,4,none⟩=false/\w.frozen? ⟨g,5,none⟩=false/\w.frozen? ⟨g,6,none⟩=false/\w.frozen? ⟨g,7,none⟩=false/\w.frozen? ⟨g,8,none⟩=false/\w.frozen? ⟨g,9,none⟩=false/\w.frozen? ⟨g,10,none⟩=false/\w.frozen? ⟨g,11,none⟩=false:=
 ⟨h.cell 0,h.cell 1,h.cell 2,h.cell 3,h.cell 4,h.cell 5,h.cell 6,h.cell 7,h.cell 8,h.cell 9,h.cell 10,h.cell 11,h.frozen 0,h.frozen 1,h.frozen 2,h.frozen 3,h.frozen 4,h.frozen 5,h.frozen 6,h.frozen 7,h.frozen 8,h.frozen 9,h.frozen 10,h.frozen 11⟩
theorem zdz{a:World}{u6 u7 u8 u9 u10 u11:Value}(h:Bw w a)(hg:w.heap.size<=g):Bw w ((((((((((((a.setCell ⟨g,0,none⟩ u0).setCell ⟨g,1,none⟩ u1).setCell ⟨g,2,none⟩ u2).setCell ⟨g,3,none⟩ u3).setCell ⟨g,4,none⟩ u4).setCell ⟨g,5,none⟩ u5).setCell ⟨g,6,none⟩ u6).setCell ⟨g,7,none⟩ u7).setCell ⟨g,8,none⟩ u8).setCell ⟨g,9,none⟩ u9).setCell ⟨g,10,none⟩ u10).setCell ⟨g,11,none⟩ u11):=((((((((((((h.setCell hg _).setCell hg _).setCell hg _).setCell hg _).setCell hg _).setCell hg _).setCell hg _).setCell hg _).setCell hg _).setCell hg _).setCell hg _).setCell hg _)
theorem zvY(hk:k<12):k=0∨k=1∨k=2∨k=3∨k=4∨k=5∨k=6∨k=7∨k=8∨k=9∨k=10∨k=11:=om
theorem Blk.at12(h:Blk w g t #[.int .i64 (M 0),.int .i64 (M 1),.int .i64 (M 2),.int .i64 (M 3),.int .i64 (M 4),.int .i64 (M 5),.int .i64 (M 6),.int .i64 (M 7),.int .i64 (M 8),.int .i64 (M 9),.int .i64 (M 10),.int .i64 (M 11)]){k:Nat}(hk:k<12):w.cell? ⟨g,k,none⟩=some (.int .i64 (M k)):=by
 rcases zvY hk with rfl | rfl | rfl | rfl | rfl | rfl | rfl | rfl | rfl | rfl | rfl | rfl
 ·exact h.cell 0
 ·exact h.cell 1
 ·exact h.cell 2
 ·exact h.cell 3
 ·exact h.cell 4
 ·exact h.cell 5
 ·exact h.cell 6
 ·exact h.cell 7
 ·exact h.cell 8
 ·exact h.cell 9
 ·exact h.cell 10
 ·exact h.cell 11
theorem Blk.at3(h:Blk w g t #[.int .i64 (M 0),.int .i64 (M 1),.int .i64 (M 2)]){k:Nat}(hk:k<3):w.cell? ⟨g,k,none⟩=some (.int .i64 (M k)):=by
 obtain rfl | rfl | rfl:k=0∨k=1∨k=2:=om
 ·exact h.cell 0
 ·exact h.cell 1
 ·exact h.cell 2
def BM(w:World)(g:Nat)(M:Nat->Int):Prop:=Blk w g 46 #[.int .i64 (M 0),.int .i64 (M 1),.int .i64 (M 2),.int .i64 (M 3),.int .i64 (M 4),.int .i64 (M 5),.int .i64 (M 6),.int .i64 (M 7),.int .i64 (M 8),.int .i64 (M 9),.int .i64 (M 10),.int .i64 (M 11)]
def BV3(w:World)(g:Nat)(V:Nat->Int):Prop:=Blk w g 48 #[.int .i64 (V 0),.int .i64 (V 1),.int .i64 (V 2)]
def zdG:Nat->Int:=λ_=>0
def okM(M:Nat->Int):Bool:=zaK [M 0,M 1,M 2,M 3,M 4,M 5,M 6,M 7,M 8,M 9,M 10,M 11]
def zbG(Ms:List (Nat->Int)):Bool:=Ms.all okM
theorem zx7(h:Blk w g t #[.int .i64 (M 0),.int .i64 (M 1),.int .i64 (M 2),.int .i64 (M 3),.int .i64 (M 4),.int .i64 (M 5),.int .i64 (M 6),.int .i64 (M 7),.int .i64 (M 8),.int .i64 (M 9),.int .i64 (M 10),.int .i64 (M 11)]):Row w (some ⟨g,0,none⟩) 12 [M 0,M 1,M 2,M 3,M 4,M 5,M 6,M 7,M 8,M 9,M 10,M 11]:=by
 refine⟨rfl,om,.inr ⟨_,_,rfl,λk hk=> ?_⟩⟩;rcases zvY hk with rfl | rfl | rfl | rfl | rfl | rfl | rfl | rfl | rfl | rfl | rfl | rfl
 ·exact h.cell 0
 ·exact h.cell 1
 ·exact h.cell 2
 ·exact h.cell 3
 ·exact h.cell 4
 ·exact h.cell 5
 ·exact h.cell 6
 ·exact h.cell 7
 ·exact h.cell 8
 ·exact h.cell 9
 ·exact h.cell 10
 ·exact h.cell 11
theorem zmA(h:okM M=true){k:Nat}(hk:k<12):okB (M k)=true:=by
 unfold okM zaK at h;simp only[all_cons,all_nil,Bool.and_true,Bool.and_eq_true]at h;rcases zvY hk with rfl | rfl | rfl | rfl | rfl | rfl | rfl | rfl | rfl | rfl | rfl | rfl <;> simp[h]
theorem zx8(h:∀k,k<12->okB (M k)=true):okM M=true:=by
 unfold okM zaK;simp[h 0 om,h 1 om,h 2 om,h 3 om,h 4 om,h 5 om,h 6 om,h 7 om,h 8 om,h 9 om,h 10 om,h 11 om]
def MRow(w:World)(a:Option Addr)(len:Nat)(Ms:List (Nat->Int)):Prop:=
 Ms.length=len/\len<=9223372036854775807/\(len=0∨∃b off,a=some ⟨b,off,none⟩/\∀i,i<len->∀j,j<12->w.cell? ⟨b,off+i*12+j,none⟩=some (.int .i64 (Ms.getD i zdG j)))
theorem zdH(h:MRow w a len Ms)(hb:Bw w w'):MRow w' a len Ms:=by
 obtain⟨h1,h2,h3⟩:=h;refine⟨h1,h2,?_⟩;rcases h3 with h3 | ⟨b,off,e,hc⟩
 ·exact .inl h3
 ·exact .inr ⟨b,off,e,λi hi j hj=>zam (hc i hi j hj) hb⟩
theorem MRow.at_(h:MRow w a len Ms)(hk:k<len):
  ∃b off M,a=some ⟨b,off,none⟩/\Ms[k]? =some M/\w.cell? ⟨b,off+k*12,none⟩=some (.int .i64 (M 0))/\w.cell? ⟨b,off+k*12+1,none⟩=some (.int .i64 (M 1))/\w.cell? ⟨b,off+k*12+2,none⟩=some (.int .i64 (M 2))/\w.cell? ⟨b,off+k*12+3,none⟩=some (.int .i64 (M 3))/\w.cell? ⟨b,off+k*12+4,none⟩=some (.int .i64 (M 4))/\w.cell? ⟨b,off+k*12+5,none⟩=some (.int .i64 (M 5))/\w.cell? ⟨b,off+k*12+6,none⟩=some (.int .i64 (M 6))/\w.cell? ⟨b,off+k*12+7,none⟩=some (.int .i64 (M 7))/\w.cell? ⟨b,off+k*12+8,none⟩=some (.int .i64 (M 8))/\w.cell? ⟨b,off+k*12+9,none⟩=some (.int .i64 (M 9))/\w.cell? ⟨b,off+k*12+10,none⟩=some (.int .i64 (M 10))/\w.cell? ⟨b,off+k*12+11,none⟩=some (.int .i64 (M 11)):=by
 obtain⟨h1,h2,h3⟩:=h;rcases h3 with h3 | ⟨b,off,rfl,hc⟩
 ·omega
 ·have Cs:k<Ms.length:=om;have e:Ms.getD k zdG=Ms[k]:=by simp[getD,getElem?_eq_getElem Cs]
  have c:=hc k hk;rw[e]at c;exact⟨b,off,_,rfl,getElem?_eq_getElem Cs,c 0 om,c 1 om,c 2 om,c 3 om,c 4 om,c 5 om,c 6 om,c 7 om,c 8 om,c 9 om,c 10 om,c 11 om⟩
theorem zla(h:Ms[k]? =some M)(hr:zbG (Ms.take k)=true)(ho:okM M=true):zbG (Ms.take (k+1))=true:=by
 unfold zbG at hr ⊢;rw[take_add_one,all_append,hr,h];simpa using ho
theorem zn5(h:Ms[k]? =some M)(ho:okM M=false):zbG Ms=false:=by
 unfold zbG;rw[all_eq_false];exact⟨M,mem_of_getElem? h,by simpa using ho⟩
theorem zn6(hr:zbG (Ms.take k)=true)(h:Ms.length<=k):zbG Ms=true:=by
 rwa [take_of_length_le h]at hr
theorem zlb(ho:okM M=true)(h:Blk w g t #[.int .i64 (M 0),.int .i64 (M 1),.int .i64 (M 2),.int .i64 (M 3),.int .i64 (M 4),.int .i64 (M 5),.int .i64 (M 6),.int .i64 (M 7),.int .i64 (M 8),.int .i64 (M 9),.int .i64 (M 10),.int .i64 (M 11)]):
  Calls prog 249 #[.slice (some ⟨g,0,none⟩) 12 cap] w λe w'=>e= .returned (.bool true)/\w=w':=
 (zbF _ 12 cap [M 0,M 1,M 2,M 3,M 4,M 5,M 6,M 7,M 8,M 9,M 10,M 11] w (zx7 h)).mono λ_ _ ⟨he,hw⟩=>⟨by rw[he,show zaK [M 0,M 1,M 2,M 3,M 4,M 5,M 6,M 7,M 8,M 9,M 10,M 11]=true from ho],hw⟩
theorem zn7(ho:okM M=false)(h:Blk w g t #[.int .i64 (M 0),.int .i64 (M 1),.int .i64 (M 2),.int .i64 (M 3),.int .i64 (M 4),.int .i64 (M 5),.int .i64 (M 6),.int .i64 (M 7),.int .i64 (M 8),.int .i64 (M 9),.int .i64 (M 10),.int .i64 (M 11)]):
  Calls prog 249 #[.slice (some ⟨g,0,none⟩) 12 cap] w λe w'=>e= .returned (.bool false)/\w=w':=
 (zbF _ 12 cap [M 0,M 1,M 2,M 3,M 4,M 5,M 6,M 7,M 8,M 9,M 10,M 11] w (zx7 h)).mono λ_ _ ⟨he,hw⟩=>⟨by rw[he,show zaK [M 0,M 1,M 2,M 3,M 4,M 5,M 6,M 7,M 8,M 9,M 10,M 11]=false from ho],hw⟩
theorem zhJ(a:Option Addr)(len cap:Nat)(Ms:List (Nat->Int))(w:World)(row:MRow w a len Ms):
  Calls prog 188 #[.slice a len cap] w λe w'=>e= .returned (.bool (zbG Ms))/\Bw w w':=by
 have HL:=kA row.1;have Hy:=row.2.1;have hJ:=kA row;clear row;go_enter func188,ntmps188;go_wp2
 go_loopw [4,7] (λ_ i wr=>∃k:Nat,k<=len/\i= .int .i64 k/\zbG (Ms.take k)=true/\Bw w wr) (λ_ i _=>len - (intOf i).toNat)
 case atStart=>exact⟨0,zero_le _,rfl,rfl,Below.refl _ _⟩
 case round=>
  obtain⟨k,hk,rfl,hr,hb⟩:=hrel;have HR:=kA hr;have HB:=kA hb;clear hr hb
  by_cases hlt:k<len
  ·obtain⟨b,off,M,rfl,hv,c0,c1,c2,c3,c4,c5,c6,c7,c8,c9,c10,c11⟩:=(zdH hJ HB).at_ hlt;have HV:=kA hv;clear hv
   by_cases ho:okM M=true
   ·have HO:=kA ho;clear ho;go_wp2_with (go_at_call 249;refine (zlb HO (Blk.new _ _ _)).mono ?_;rintro e w' ⟨rfl,rfl⟩);go_roundw
    case rel=>exact⟨k+1,om,by go_num,zla HV HR HO,zag HB _⟩
    case measure=>simp[intOf];omega
   ·have d7:okM M=false:=by simpa using ho
    have HO:=kA d7;clear ho d7;go_wp2_with (go_at_call 249;refine (zn7 HO (Blk.new _ _ _)).mono ?_;rintro e w' ⟨rfl,rfl⟩);go_ret;exact⟨zdq (zn5 HV HO).symm,zag HB _⟩
  ·go_wp2;go_ret;exact⟨zdq (zn6 HR (by rw[HL.out];omega)).symm,HB⟩
theorem zjx(r p:Nat)(w:World)(hr:r<3)(hp:p<4):
  Calls prog 286 #[.int .i64 r,.int .i64 p] w λe w'=>e= .returned (.int .i64 ((4*r+p:Nat):Int))/\w=w':=by
 go_enter func286,ntmps286;go_wp2;go_ret;exact⟨zvP om,rfl⟩
theorem zvZ(r:Nat)(w:World)(hr:r<3):
  Calls prog 286 #[.int .i64 r,.int .i64 3] w λe w'=>e= .returned (.int .i64 ((4*r+3:Nat):Int))/\w=w':=zjx r 3 w hr om
theorem zzy(h:Blk w g t #[x0,x1,x2,x3]):w.cell? ⟨g,0,none⟩=some x0/\w.cell? ⟨g,1,none⟩=some x1/\w.cell? ⟨g,2,none⟩=some x2/\w.cell? ⟨g,3,none⟩=some x3:=⟨h.cell 0,h.cell 1,h.cell 2,h.cell 3⟩
theorem zu1(h:Blk w g t #[x0,x1,x2,x3,x4,x5]):w.cell? ⟨g,0,none⟩=some x0/\w.cell? ⟨g,1,none⟩=some x1/\w.cell? ⟨g,2,none⟩=some x2/\w.cell? ⟨g,3,none⟩=some x3/\w.cell? ⟨g,4,none⟩=some x4/\w.cell? ⟨g,5,none⟩=some x5/\
  w.frozen? ⟨g,0,none⟩=false/\w.frozen? ⟨g,1,none⟩=false/\w.frozen? ⟨g,2,none⟩=false/\w.frozen? ⟨g,3,none⟩=false/\w.frozen? ⟨g,4,none⟩=false/\w.frozen? ⟨g,5,none⟩=false:=
 ⟨h.cell 0,h.cell 1,h.cell 2,h.cell 3,h.cell 4,h.cell 5,h.frozen 0,h.frozen 1,h.frozen 2,h.frozen 3,h.frozen 4,h.frozen 5⟩
def zzz(M:Nat->Int)(r k:Nat):Int:=M (4*r+k)
def zzA(M B:Nat->Int)(r:Nat):Int:=zvW (zzz M r) B (M (4*r+3))
def zzB(M B:Nat->Int)(r:Nat):Int:=zvX (zzz M r) B (M (4*r+3))
def caE(M B:Nat->Int)(r:Nat):Int:=enE (zzz M r) B (M (4*r+3))
def caK(M B:Nat->Int)(k:Nat):Int:=if k<3 then zzA M B k else zzB M B (k - 3)
def zjy(M B:Nat->Int):Bool:=okM M && zcm B
def zjo(M B:Nat->Int):Int:=if zjy M B then zc5 (caE M B 0) (caE M B 1) (caE M B 2) else 1
def zcH(M B:Nat->Int)(k:Nat):Int:=zph (zjo M B) (caK M B k)
theorem zmB(h:okM M=true)(h':zcm B=true):zjo M B=zc5 (caE M B 0) (caE M B 1) (caE M B 2):=by unfold zjo zjy;rw[h,h'];rfl
theorem zlc(h:zjy M B=false):zjo M B=1:=by unfold zjo;rw[h];rfl
theorem zcn(h:zjy M B=false)(k:Nat):zcH M B k=0:=by unfold zcH;rw[zlc h];rfl
theorem zco{e:Int}(h:zjo M B=e)(k:Nat):zcH M B k=zph e (caK M B k):=by unfold zcH;rw[h]
theorem zsN{a:World}(h:Bw w a)(hg:w.heap.size<=g):Bw w ((((((a.setCell ⟨g,0,none⟩ u0).setCell ⟨g,1,none⟩ u1).setCell ⟨g,2,none⟩ u2).setCell ⟨g,3,none⟩ u3).setCell ⟨g,4,none⟩ u4).setCell ⟨g,5,none⟩ u5):=
 (((((h.setCell hg _).setCell hg _).setCell hg _).setCell hg _).setCell hg _).setCell hg _
def zgo(f:Nat->Int)(r j:Nat):Value:=if j % 3<r then .int .i64 (f j) else .int .i64 0
theorem zn8(w:World)(t:TypeId)(f:Nat->Int):(w.alloc (.cells #[.int .i64 0,.int .i64 0,.int .i64 0,.int .i64 0,.int .i64 0,.int .i64 0] t)).rowIs w.heap.size t 6 (zgo f 0):=by
 refine (World.rowIs_alloc w _ t (zgo f 0) (λi hi=> ?_));rcases lt6 (k:=i) (by simpa using hi) with rfl | rfl | rfl | rfl | rfl | rfl <;> rfl
theorem zpJ(f:Nat->Int){r j:Nat}(hr:r<3)(hj:j<6):(if j=3+r then Value.int .i64 (f (3+r)) else if j=r then .int .i64 (f r) else zgo f r j)=zgo f (r+1) j:=by
 unfold zgo
 by_cases e1:j=3+r
 ·rw[if_pos e1,if_pos om,e1]
 ·rw[if_neg e1]
  by_cases e2:j=r
  ·rw[if_pos e2,if_pos om,e2]
  ·rw[if_neg e2]
   by_cases e3:j % 3<r
   ·rw[if_pos e3,if_pos om]
   ·rw[if_neg e3,if_neg om]
def r3(x y z:Int)(j:Nat):Int:=[x,y,z].getD j 0
def zx9:Nat->Int:=λ_=>0
def BRow(w:World)(a:Option Addr)(len:Nat)(Bs:List (Nat->Int)):Prop:=
 Bs.length=len/\len<=9223372036854775807/\(len=0∨∃b off,a=some ⟨b,off,none⟩/\∀i,i<len->∀j,j<6->w.cell? ⟨b,off+i*6+j,none⟩=some (.int .i64 (Bs.getD i zx9 j)))
theorem zpK(h:BRow w a len Bs)(hb:Bw w w'):BRow w' a len Bs:=by
 obtain⟨h1,h2,h3⟩:=h;refine⟨h1,h2,?_⟩;rcases h3 with h3 | ⟨b,off,e,hc⟩
 ·exact .inl h3
 ·exact .inr ⟨b,off,e,λi hi j hj=>zam (hc i hi j hj) hb⟩
theorem BRow.at_(h:BRow w a len Bs)(hk:k<len):
  ∃b off B,a=some ⟨b,off,none⟩/\Bs[k]? =some B/\w.cell? ⟨b,off+k*6,none⟩=some (.int .i64 (B 0))/\w.cell? ⟨b,off+k*6+1,none⟩=some (.int .i64 (B 1))/\w.cell? ⟨b,off+k*6+2,none⟩=some (.int .i64 (B 2))/\w.cell? ⟨b,off+k*6+3,none⟩=some (.int .i64 (B 3))/\w.cell? ⟨b,off+k*6+4,none⟩=some (.int .i64 (B 4))/\w.cell? ⟨b,off+k*6+5,none⟩=some (.int .i64 (B 5)):=by
 obtain⟨h1,h2,h3⟩:=h;rcases h3 with h3 | ⟨b,off,rfl,hc⟩
 ·omega
 ·have Cs:k<Bs.length:=om;have e:Bs.getD k zx9=Bs[k]:=by simp[getD,getElem?_eq_getElem Cs]
  have c:=hc k hk;rw[e]at c;exact⟨b,off,_,rfl,getElem?_eq_getElem Cs,c 0 om,c 1 om,c 2 om,c 3 om,c 4 om,c 5 om⟩
def zdI(Bs:List (Nat->Int)):Bool:=Bs.all zcm
theorem zgp(h:Bs[k]? =some B)(ho:zcm B=false):zdI Bs=false:=by
 unfold zdI;rw[all_eq_false];exact⟨B,mem_of_getElem? h,by simpa using ho⟩
theorem zjz(h:Bs[k]? =some B)(hr:zdI (Bs.take k)=true)(ho:zcm B=true):zdI (Bs.take (k+1))=true:=by
 unfold zdI at hr ⊢;rw[take_add_one,all_append,hr,h];simpa using ho
def zzC(V:Nat->Int)(k:Nat):Int:=if k=0 then V 0 else if k=5 then V 1 else if k=10 then V 2 else 0
def zcx:Nat->Int:=zzC (λ_=>65536)
theorem fin{Q:World->Prop}{W:World}(P:World->Prop)(h:P W)(k:∀W',P W'->Q W'):Q W:=k W h
theorem za5{n:Nat}{a:World}(h:Below n w a):Below n w a.drew:=⟨h.os,h.tape,h.output,h.size,h.block⟩
theorem zpL(x y z:Int)(w:World):
  Calls prog 252 #[.agg #[.int .i64 x,.int .i64 y,.int .i64 z]] w λe w'=>e= .returned (.agg #[.int .i64 x,.int .i64 0,.int .i64 0,.int .i64 0,.int .i64 0,.int .i64 y,.int .i64 0,.int .i64 0,.int .i64 0,.int .i64 0,.int .i64 z,.int .i64 0])/\Bw w w':=by
 go_enter func252,ntmps252;go_wp2;refine wp_loop_rounds 4 ?_;rw[rounds_succ];go_wp2
 go_region_held3 (λw'=>w'.cell? ⟨w.heap.size,0,none⟩=some (.int .i64 x)) (first | go_keep)
  (first | (go_at_call 286;refine (zjx 0 0 _ om om).mono ?_;rintro e w1 ⟨rfl,rfl⟩))
 go_wp2;rw[rounds_succ];go_wp2
 go_region_held3 (λw'=>w'.cell? ⟨w.heap.size,1,none⟩=some (.int .i64 y)) (first | go_keep)
  (first | (go_at_call 286;refine (zjx 1 1 _ om om).mono ?_;rintro e w1 ⟨rfl,rfl⟩))
 go_wp2;rw[rounds_succ];go_wp2
 go_region_held3 (λw'=>w'.cell? ⟨w.heap.size,2,none⟩=some (.int .i64 z)) (first | go_keep)
  (first | (go_at_call 286;refine (zjx 2 2 _ om om).mono ?_;rintro e w1 ⟨rfl,rfl⟩))
 go_wp2;rw[rounds_succ];go_wp2;exact bodyPost_ret (v:= .agg #[.int .i64 x,.int .i64 0,.int .i64 0,.int .i64 0,.int .i64 0,.int .i64 y,.int .i64 0,.int .i64 0,.int .i64 0,.int .i64 0,.int .i64 z,.int .i64 0]) (by simp[results,results252,go_sem]) rfl ⟨rfl,za5 (za5 (za5 (zag (zag (zaa _ _) _) _)))⟩
theorem zpM(x y z:Int)(w:World):
  Calls prog 106 #[.agg #[.int .i64 x,.int .i64 y,.int .i64 z]] w λe w'=>e= .returned (.agg #[.int .i64 x,.int .i64 0,.int .i64 0,.int .i64 0,.int .i64 0,.int .i64 y,.int .i64 0,.int .i64 0,.int .i64 0,.int .i64 0,.int .i64 z,.int .i64 0])/\Bw w w':=by
 go_enter func106,ntmps106;go_wp2;refine wp_loop_rounds 4 ?_;rw[rounds_succ];go_wp2;rw[rounds_succ];go_wp2;rw[rounds_succ];go_wp2;rw[rounds_succ];go_wp2;exact bodyPost_ret (v:= .agg #[.int .i64 x,.int .i64 0,.int .i64 0,.int .i64 0,.int .i64 0,.int .i64 y,.int .i64 0,.int .i64 0,.int .i64 0,.int .i64 0,.int .i64 z,.int .i64 0]) (by simp[results,results106,go_sem]) rfl ⟨rfl,zag (zag (zaa _ _) _) _⟩
theorem zmC(w:World):
  Calls prog 194 #[] w λe w'=>e= .returned (.agg #[.int .i64 65536,.int .i64 0,.int .i64 0,.int .i64 0,.int .i64 0,.int .i64 65536,.int .i64 0,.int .i64 0,.int .i64 0,.int .i64 0,.int .i64 65536,.int .i64 0])/\Bw w w':=by
 go_enter func194,ntmps194;go_wp2_with fail;refine (zpL 65536 65536 65536 _).mono ?_;rintro e w1 ⟨rfl,b1⟩;have K1:=kA ((Blk.new w 46 _).keep b1);have B1:=kA (zad (zaa _ _) b1);clear b1;obtain⟨c0,c1,c2,c3,c4,c5,c6,c7,c8,c9,c10,c11,f0,f1,f2,f3,f4,f5,f6,f7,f8,f9,f10,f11⟩:=zdB K1;go_wp2;exact bodyPost_ret (v:= .agg #[.int .i64 65536,.int .i64 0,.int .i64 0,.int .i64 0,.int .i64 0,.int .i64 65536,.int .i64 0,.int .i64 0,.int .i64 0,.int .i64 0,.int .i64 65536,.int .i64 0]) (by simp[results,results194,go_sem,c0,c1,c2,c3,c4,c5,c6,c7,c8,c9,c10,c11]) rfl ⟨rfl,zdz B1 om⟩
theorem zpN(w:World):
  Calls prog 60 #[] w λe w'=>e= .returned (.agg #[.int .i64 65536,.int .i64 0,.int .i64 0,.int .i64 0,.int .i64 0,.int .i64 65536,.int .i64 0,.int .i64 0,.int .i64 0,.int .i64 0,.int .i64 65536,.int .i64 0])/\Bw w w':=by
 go_enter func60,ntmps60;go_wp2_with fail;refine (zpM 65536 65536 65536 _).mono ?_;rintro e w1 ⟨rfl,b1⟩;have K1:=kA ((Blk.new w 46 _).keep b1);have B1:=kA (zad (zaa _ _) b1);clear b1;obtain⟨c0,c1,c2,c3,c4,c5,c6,c7,c8,c9,c10,c11,f0,f1,f2,f3,f4,f5,f6,f7,f8,f9,f10,f11⟩:=zdB K1;go_wp2;exact bodyPost_ret (v:= .agg #[.int .i64 65536,.int .i64 0,.int .i64 0,.int .i64 0,.int .i64 0,.int .i64 65536,.int .i64 0,.int .i64 0,.int .i64 0,.int .i64 0,.int .i64 65536,.int .i64 0]) (by simp[results,results60,go_sem,c0,c1,c2,c3,c4,c5,c6,c7,c8,c9,c10,c11]) rfl ⟨rfl,zdz B1 om⟩
theorem zpO(x y z:Int)(w:World):
  Calls prog 27 #[.agg #[.int .i64 x,.int .i64 y,.int .i64 z]] w λe w'=>e= .returned (.agg #[.int .i64 65536,.int .i64 0,.int .i64 0,.int .i64 x,.int .i64 0,.int .i64 65536,.int .i64 0,.int .i64 y,.int .i64 0,.int .i64 0,.int .i64 65536,.int .i64 z])/\Bw w w':=by
 go_enter func27,ntmps27;go_wp2_with fail;refine (zpN _).mono ?_;rintro e w1 ⟨rfl,b1⟩;have K1:=kA (zbe ((Blk.new (w.alloc _) 46 _).keep b1) (g':=w.heap.size+1) (by simp));have L1:=kA (((Blk.new w 48 _).alloc _).keep b1);have B1:=kA (zad (zag (zaa _ _) _) b1);clear b1;obtain⟨d0,d1,d2,_,_,_⟩:=zpy L1;have z2:=L1.lt;go_wp2;refine wp_loop_rounds 4 ?_;rw[rounds_succ];go_wp2;rw[rounds_succ];go_wp2;rw[rounds_succ];go_wp2;rw[rounds_succ];clear d0 d1 d2 z2;refine fin (λW=>Blk W (w.heap.size+1) 46 #[.int .i64 0,.int .i64 0,.int .i64 0,.int .i64 0,.int .i64 0,.int .i64 0,.int .i64 0,.int .i64 0,.int .i64 0,.int .i64 0,.int .i64 0,.int .i64 0]/\Blk W w1.heap.size 46 #[.int .i64 65536,.int .i64 0,.int .i64 0,.int .i64 x,.int .i64 0,.int .i64 65536,.int .i64 0,.int .i64 y,.int .i64 0,.int .i64 0,.int .i64 65536,.int .i64 z]/\Bw w W) ⟨K1.alloc _,Blk.new w1 _ _,zag B1 _⟩ ?_;rintro W ⟨hk,hm,hb⟩;have HB:=kA hb;clear hb;obtain⟨c0,c1,c2,c3,c4,c5,c6,c7,c8,c9,c10,c11,f0,f1,f2,f3,f4,f5,f6,f7,f8,f9,f10,f11⟩:=zdB hk;obtain⟨d0,d1,d2,d3,d4,d5,d6,d7,d8,d9,gH,gI,_,_,_,_,_,_,_,_,_,_,_,_⟩:=zdB hm;go_wp2;exact bodyPost_ret (v:= .agg #[.int .i64 65536,.int .i64 0,.int .i64 0,.int .i64 x,.int .i64 0,.int .i64 65536,.int .i64 0,.int .i64 y,.int .i64 0,.int .i64 0,.int .i64 65536,.int .i64 z]) (by simp[results,results27,go_sem,c0,c1,c2,c3,c4,c5,c6,c7,c8,c9,c10,c11]) rfl ⟨rfl,zdz HB om⟩
end Go.Proofs.YtlibdcmcbinfnaaGreat
