/- Lemmas. -/
import Derived.Test.YtlibdcmcbinfnaaGreatMS04
import Derived.Maps.Own
set_option maxHeartbeats 100000000
set_option maxRecDepth 1000000
namespace Go.Proofs.YtlibdcmcbinfnaaGreat
open _root_.Go.Proofs.Tryz List Nat
open Go.RowKit
theorem zyh:(range 32).all (λs=>(range 5).all λk=>decide (bits .or .i64 (s:Int) ((2:Int) ^ k)=zhN s k))=true:=oM
theorem zv8:(range 32).all (λs=>(range 32).all λa=>decide ((bits .and .i64 (s:Int) (a:Int)==(a:Int))=(range 5).all λj=> !zaV a j || zaV s j))=true:=oM
theorem zv9:(range 32).all (λs=>(range 5).all λk=>decide ((bits .and .i64 (s:Int) ((2:Int) ^ k) != 0)=zaV s k))=true:=oM
theorem zpW:(range 32).all (λs=>(range 32).all λa=>decide (0<=bits .andNot .i64 (s:Int) (a:Int)/\bits .andNot .i64 (s:Int) (a:Int)<=31) && (range 5).all λj=>decide (zaV (bits .andNot .i64 (s:Int) (a:Int)) j=(zaV s j && !zaV a j)))=true:=oM
theorem zwa:(range 32).all (λs=>(range 5).all λk=>(range 5).all λj=>decide (zaV (zhN (s:Int) (k:Int)) j=(zaV s j || (k==j))))=true:=oM
theorem zwb:(range 32).all (λs=>(range 5).all λk=>(range 5).all λj=>decide (zaV (zjp (s:Int) (k:Int)) j=(zaV s j && !(k==j))))=true:=oM
theorem zwc:(range 32).all (λs=>(range 32).all λt=> !((range 5).all λj=>zaV (s:Int) j==zaV (t:Int) j) || s==t)=true:=oM
variable{n j b g:Nat}{k s a:Int}{ks zs:List Int}{w w':World}{v:Value}
theorem tab{f:Nat->Bool}(h:(range n).all f=true){k:Nat}(hk:k<n):f k=true:=all_eq_true.1 h k (mem_range.2 hk)
theorem zda(h:0<=s/\s<=31):∃n:Nat,s=(n:Int)/\n<32:=⟨s.toNat,om,om⟩
theorem zgv(h:kOk k=true):∃n:Nat,k=(n:Int)/\n<5:=⟨k.toNat,by rcases zbf h with rfl | rfl | rfl | rfl | rfl <;> rfl,by rcases zbf h with rfl | rfl | rfl | rfl | rfl <;> decide⟩
theorem zpX(hs:0<=s/\s<=31)(hk:kOk k=true):bits .or .i64 s (2 ^ k.toNat)=zhN s k:=by
 obtain⟨n,rfl,hn⟩:=zda hs;obtain⟨m,rfl,hm⟩:=zgv hk;exact of_decide_eq_true (tab (tab zyh hn) hm)
theorem zfj(hs:0<=s/\s<=31)(hk:kOk k=true){j:Nat}(hj:j<5):zaV (zhN s k) j=(zaV s j || (k==(j:Int))):=by
 obtain⟨n,rfl,hn⟩:=zda hs;obtain⟨m,rfl,hm⟩:=zgv hk;have:=of_decide_eq_true (tab (tab (tab zwa hn) hm) hj);rw[this];congr 1;rw[Bool.eq_iff_iff];simp;omega
theorem zcV(hs:0<=s/\s<=31)(hk:kOk k=true){j:Nat}(hj:j<5):zaV (zjp s k) j=(zaV s j && !(k==(j:Int))):=by
 obtain⟨n,rfl,hn⟩:=zda hs;obtain⟨m,rfl,hm⟩:=zgv hk;have:=of_decide_eq_true (tab (tab (tab zwb hn) hm) hj);rw[this];congr 2;rw[Bool.eq_iff_iff];simp;omega
theorem zwd(hs:0<=s/\s<=31)(ha:0<=a/\a<=31){j:Nat}(hj:j<5):zaV (bits .andNot .i64 s a) j=(zaV s j && !zaV a j):=by
 obtain⟨n,rfl,hn⟩:=zda hs;obtain⟨m,rfl,hm⟩:=zda ha;have:=tab (tab zpW hn) hm;rw[Bool.and_eq_true]at this;exact of_decide_eq_true (tab this.2 hj)
theorem zpY(hs:0<=s/\s<=31)(ha:0<=a/\a<=31):0<=bits .andNot .i64 s a/\bits .andNot .i64 s a<=31:=by
 obtain⟨n,rfl,hn⟩:=zda hs;obtain⟨m,rfl,hm⟩:=zda ha;have:=tab (tab zpW hn) hm;rw[Bool.and_eq_true]at this;exact of_decide_eq_true this.1
theorem zwe{t:Int}(hs:0<=s/\s<=31)(ht:0<=t/\t<=31)(h:∀j,j<5->zaV s j=zaV t j):s=t:=by
 obtain⟨n,rfl,hn⟩:=zda hs;obtain⟨m,rfl,hm⟩:=zda ht;have:=tab (tab zwc hn) hm;rw[show ((range 5).all λj=>zaV (n:Int) j==zaV (m:Int) j)=true from all_eq_true.2 (λj hj=>by simpa using h j (mem_range.1 hj))]at this;have:n=m:=by simpa using this
 rw[this]
theorem zlg(s:Int){j:Nat}(hj:j<5):zaV (s % 32) j=zaV s j:=by
 unfold zaV;congr 1;obtain rfl | rfl | rfl | rfl | rfl:j=0∨j=1∨j=2∨j=3∨j=4:=om
 ·show (s % 32 / 1 % 2=1)=(s / 1 % 2=1);rw[eq_iff_iff];omega
 ·show (s % 32 / 2 % 2=1)=(s / 2 % 2=1);rw[eq_iff_iff];omega
 ·show (s % 32 / 4 % 2=1)=(s / 4 % 2=1);rw[eq_iff_iff];omega
 ·show (s % 32 / 8 % 2=1)=(s / 8 % 2=1);rw[eq_iff_iff];omega
 ·show (s % 32 / 16 % 2=1)=(s / 16 % 2=1);rw[eq_iff_iff];omega
theorem zpZ(s:Int){a:Int}(ha:0<=a/\a<=31):bits .and .i64 s a=bits .and .i64 (s % 32) a:=by
 obtain⟨m,rfl,hm⟩:=zda ha;have h2:(BitVec.ofInt 64 (m:Int)).toNat=m:=by
  rw[BitVec.ofInt_natCast,BitVec.toNat_ofNat];exact mod_eq_of_lt om
 show IntKind.i64.wrap ((BitVec.ofInt 64 s &&& BitVec.ofInt 64 (m:Int)).toNat:Int)=IntKind.i64.wrap ((BitVec.ofInt 64 (s % 32) &&& BitVec.ofInt 64 (m:Int)).toNat:Int);rw[BitVec.toNat_and,BitVec.toNat_and,h2,zjD,zjD];have hk:∀x:Nat,x &&& m=(x % 32) &&& m:=λx=>by
  have e:31 &&& m=m:=by rw[Nat.and_comm,show (31:Nat)=2 ^ 5 - 1 by decide,and_two_pow_sub_one_eq_mod];exact mod_eq_of_lt hm
  have e2:x % 32=x &&& 31:=by rw[show (31:Nat)=2 ^ 5 - 1 by decide,and_two_pow_sub_one_eq_mod]
  rw[e2,Nat.and_assoc,e]
 rw[hk];congr 3;omega
theorem zp0(s:Int){k:Int}(hk:kOk k=true):(bits .and .i64 s (2 ^ k.toNat) != 0)=zcl s k:=by
 obtain⟨m,rfl,hm⟩:=zgv hk;rw[zcq om,Int.toNat_natCast];have hb:(0:Int)<=2 ^ m/\(2:Int) ^ m<=31:=by
  obtain rfl | rfl | rfl | rfl | rfl:m=0∨m=1∨m=2∨m=3∨m=4:=om
  all_goals decide
 rw[zpZ s hb,<-zlg s hm];obtain⟨n,e,hn⟩:=zda (s:=s % 32) om;rw[e];exact of_decide_eq_true (tab (tab zv9 hn) hm)
theorem zmI:∀ (ks:List Int) (s:Int),0<=s/\s<=31->zd8 ks=true->∀ {j:Nat},j<5->zaV (ks.foldl zhN s) j=(zaV s j || ks.any (·==(j:Int)))
 | [],s,_,_,j,_=>by simp
 | k::r,s,hs,h,j,hj=>by
  unfold zd8 at h;rw[all_cons,Bool.and_eq_true]at h;rw[foldl_cons,zmI r _ (zd2 hs h.1) h.2 hj,zfj hs h.1 hj,any_cons,Bool.or_assoc]
theorem zjF:∀ (ks:List Int) (s:Int),0<=s/\s<=31->0<=ks.foldl zjp s/\ks.foldl zjp s<=31
 | [],_,hs=>hs
 | k::r,s,hs=>zjF r (zjp s k) (zc9 hs)
theorem zmJ:∀ (ks:List Int) (s:Int),0<=s/\s<=31->zd8 ks=true->∀ {j:Nat},j<5->zaV (ks.foldl zjp s) j=(zaV s j && !ks.any (·==(j:Int)))
 | [],s,_,_,j,_=>by simp
 | k::r,s,hs,h,j,hj=>by
  unfold zd8 at h;rw[all_cons,Bool.and_eq_true]at h;rw[foldl_cons,zmJ r _ (zc9 hs) h.2 hj,zcV hs h.1 hj,any_cons,Bool.not_or,Bool.and_assoc]
theorem has0(j:Nat):zaV 0 j=false:=by unfold zaV;simp
theorem zgw(h:zd8 ks=true):0<=ksS ks/\ksS ks<=31:=zin ks 0 om h
theorem zlh(h:zd8 ks=true){j:Nat}(hj:j<5):zaV (ksS ks) j=ks.any (·==(j:Int)):=by
 unfold ksS;rw[zmI ks 0 om h hj,has0,Bool.false_or]
theorem zod(s:Int)(ks:List Int)(h:zd8 ks=true):(bits .and .i64 s (ksS ks)==ksS ks)=zcv s ks:=by
 have hb:=zgw h;rw[zpZ s hb];obtain⟨n,e,hn⟩:=zda (s:=s % 32) om;obtain⟨m,e2,hm⟩:=zda hb;have t:=of_decide_eq_true (tab (tab zv8 hn) hm);rw[e,e2,t,Bool.eq_iff_iff,all_eq_true];unfold zcv;rw[all_eq_true];constructor
 ·intro d8 k hk;have H8:kOk k=true:=all_eq_true.1 h k hk;obtain⟨j,rfl,hj⟩:=zgv H8;have:=d8 j (mem_range.2 hj);rw[<-e2,zlh h hj,show (ks.any (·==(j:Int)))=true from any_eq_true.2 ⟨_,hk,by simp⟩,<-e,zlg s hj]at this;rw[zcq om];simpa using this
 ·intro d8 j hj;have hj:=mem_range.1 hj;rw[<-e2,zlh h hj,<-e,zlg s hj]
  by_cases c:(ks.any (·==(j:Int)))=true
  ·obtain⟨k,hk,e3⟩:=any_eq_true.1 c;have e3:k=(j:Int):=by simpa using e3
   subst e3;have:=d8 _ hk;rw[zcq om]at this;rw[this];simp
  ·rw[Bool.eq_false_iff.2 c];rfl
theorem zjG(h:zd8 ks=false):zcv s ks=false:=by
 unfold zd8 at h;obtain⟨k,hk,hn⟩:=all_eq_false.1 h;unfold zcv;refine all_eq_false.2 ⟨k,hk,?_⟩;intro c;exact hn (zip c)
def zaT(s:Int):List Int:=([0,1,2,3,4]:List Int).filter (zcl s)
def zbt(s:Int)(j:Nat):List Int:=((range j).map (λk:Nat=>(k:Int))).filter (zcl s)
theorem zei(s:Int):zbt s 5=zaT s:=rfl
theorem zgx(h:zcl s (j:Int)=true):zbt s (j+1)=zbt s j++[(j:Int)]:=by
 unfold zbt;rw[range_succ,map_append,filter_append];simp[h]
theorem zhO(h:zcl s (j:Int)=false):zbt s (j+1)=zbt s j:=by
 unfold zbt;rw[range_succ,map_append,filter_append];simp[h]
theorem zej(s:Int)(j:Nat):(zbt s j).length<=j:=by
 unfold zbt;refine Nat.le_trans (length_filter_le _ _) ?_;simp
theorem zp1(s:Int):zd8 (zaT s)=true:=by
 unfold zd8;refine all_eq_true.2 (λk hk=> ?_);unfold zaT at hk;exact zip (mem_filter.1 hk).2
def zcQ(s:Int)(P:PT):PT:=(s % 32,(if zaV s 0 then P.2.1 else zI),(if zaV s 1 then P.2.2.1 else 0),(if zaV s 1 then P.2.2.2.1 else zI),(if zaV s 2 then P.2.2.2.2.1 else 0),(if zaV s 2 then P.2.2.2.2.2.1 else 0),(if zaV s 2 then P.2.2.2.2.2.2.1 else false),(if zaV s 3 then P.2.2.2.2.2.2.2 else 0))
theorem zp2(s:Int)(P:PT):zfU zT P (zaT s)=zcQ s P:=by
 have h0:zcl s 0=zaV s 0:=zcq (k:=0) om;have h1:zcl s 1=zaV s 1:=zcq (k:=1) om;have h2:zcl s 2=zaV s 2:=zcq (k:=2) om;have h3:zcl s 3=zaV s 3:=zcq (k:=3) om;have h4:zcl s 4=zaV s 4:=zcq (k:=4) om;have hs:s % 32=(if zaV s 0 then 1 else 0)+(if zaV s 1 then 2 else 0)+(if zaV s 2 then 4 else 0)+(if zaV s 3 then 8 else 0)+(if zaV s 4 then 16 else 0):=by
  have e0:zaV s 0=decide (s % 2=1):=by unfold zaV;simp
  have e1:zaV s 1=decide (s / 2 % 2=1):=by unfold zaV;simp
  have e2:zaV s 2=decide (s / 4 % 2=1):=by unfold zaV;simp
  have e3:zaV s 3=decide (s / 8 % 2=1):=by unfold zaV;simp
  have e4:zaV s 4=decide (s / 16 % 2=1):=by unfold zaV;simp
  rw[e0,e1,e2,e3,e4];simp only[decide_eq_true_eq];omega
 unfold zcQ;rw[hs];unfold zaT;simp only[filter_cons,filter_nil,h0,h1,h2,h3,h4];clear h0 h1 h2 h3 h4 hs;generalize zaV s 0=a0;generalize zaV s 1=a1;generalize zaV s 2=a2;generalize zaV s 3=a3;generalize zaV s 4=a4
 cases a0 <;> cases a1 <;> cases a2 <;> cases a3 <;> cases a4 <;> rfl
def eqT(P Q:PT):Bool:=eqP P.1 P.2.1 P.2.2.1 P.2.2.2.1 P.2.2.2.2.1 P.2.2.2.2.2.1 P.2.2.2.2.2.2.1 P.2.2.2.2.2.2.2 Q.1 Q.2.1 Q.2.2.1 Q.2.2.2.1 Q.2.2.2.2.1 Q.2.2.2.2.2.1 Q.2.2.2.2.2.2.1 Q.2.2.2.2.2.2.2
def zjH(P:PT):Bool:=eqT (zcQ P.1 P) P
def zzI(P:PT):Bool:=zhv P.2.1 P.2.2.1 P.2.2.2.1 P.2.2.2.2.1 P.2.2.2.2.2.1 P.2.2.2.2.2.2.2
theorem zoe(P:PT):zjH P=(decide (0<=P.1) && decide (P.1<=31) && zfF P.1 P.2.1 P.2.2.1 P.2.2.2.1 P.2.2.2.2.1 P.2.2.2.2.2.1 P.2.2.2.2.2.2.1 P.2.2.2.2.2.2.2):=by
 obtain⟨h,M,m,B,p,a,c,l⟩:=P;unfold zjH eqT zcQ eqP zfF zgu zkB;simp only[];have e:(h % 32==h)=(decide (0<=h) && decide (h<=31)):=by
  rw[Bool.eq_iff_iff];simp;omega
 rw[e];have m12:=zgt M;have b6:=zio B
 cases zaV h 0 <;> cases zaV h 1 <;> cases zaV h 2 <;> cases zaV h 3 <;> simp[m12,b6,Bool.and_assoc]
theorem zgy(P:PT):zaz P=(zzI P && zjH P):=by
 rw[zoe,Bool.and_comm];rfl
theorem zdr(hk:kOk k=true)(w:World):
  Calls prog 275 #[.int .i64 k] w λe w'=>e= .returned (.int .i64 (2 ^ k.toNat))/\w=w':=by
 rcases zbf hk with rfl | rfl | rfl | rfl | rfl
 all_goals
  clear hk;go_enter func275,ntmps275;go_wp2;go_ret;exact⟨rfl,rfl⟩
theorem zzJ(n m:Int)(w:World):
  Calls prog 237 #[.int .i64 n,.int .i64 m] w λe w'=>e= .returned (.bool (inB n m))/\w=w':=by
 unfold inB
 by_cases h1:0<=n
 ·have g1:decide (0<=n)=true:=by simpa using h1
  go_enter func237,ntmps237;go_wp2;go_ret;exact⟨by rw[g1];rfl,rfl⟩
 ·have g1:decide (0<=n)=false:=by simpa using h1
  go_enter func237,ntmps237;go_wp2;go_ret;exact⟨rfl,rfl⟩
theorem zmK{n m:Int}{b:Bool}(h:inB n m=b)(w:World):
  Calls prog 237 #[.int .i64 n,.int .i64 m] w λe w'=>e= .returned (.bool b)/\w=w':=(zzJ n m w).mono λ_ _ ⟨he,hw⟩=>⟨by rw[he,h],hw⟩
theorem zli(a:Option Addr)(len cap:Nat)(ks:List Int)(w:World)(row:Row w a len ks):
  Calls prog 233 #[.slice a len cap] w λe w'=>e= .returned (.tuple #[.int .i64 (ksV ks),.int .i64 (ksE ks)])/\w=w':=by
 have HL:=kA row.1;have Hy:=row.2.1;have hJ:=kA row;clear row;go_enter func233,ntmps233;go_wp2
 go_loopw [4,9] (λv i wr=>∃j:Nat,j<=len/\i= .int .i64 j/\v= .int .i64 (ksS (ks.take j))/\zd8 (ks.take j)=true/\wr=w) (λ_ i _=>len - (intOf i).toNat)
 case atStart=>exact⟨0,om,rfl,rfl,rfl,rfl⟩
 case round=>
  obtain⟨j,hj,rfl,rfl,hz,rfl⟩:=hrel;have HZ:=kA hz;have XV:=zin (ks.take j) 0 om hz;clear hz
  by_cases hlt:j<len
  ·obtain⟨b,off,k,rfl,hv,c0⟩:=zle hJ hlt;have HV:=kA hv;have yP:=kA (zv4 hv);clear hv;have zL:(0:Int)<=(j:Int):=om;have T5:(j:Int)<(len:Int):=om;obtain⟨s,hs⟩:∃s,s=ksS (ks.take j):=⟨_,rfl⟩;rw[show (ks.take j).foldl zhN 0=s from hs.symm]at XV;rw[<-hs]at yP;rw[<-hs];clear hs
   by_cases h:k<0
   ·have hno:=zmG HV (by unfold kOk;simp;omega);have Hm:=kA hno;clear hno;go_wp2;go_ret2;exact⟨by unfold ksV ksE;rw[Hm.out];rfl,rfl⟩
   ·by_cases h5:5<=k
    ·have hno:=zmG HV (by unfold kOk;simp;omega);have Hm:=kA hno;clear hno;go_wp2;go_ret2;exact⟨by unfold ksV ksE;rw[Hm.out];rfl,rfl⟩
    ·have hk:kOk k=true:=by unfold kOk;simp;omega
     have dJ:=kA (zpU HV HZ hk);have HK:=kA hk;have HO:=kA (zpX XV hk);clear hk XV;go_wp2_with fail;refine (zdr HK _).mono ?_;rintro e w1 ⟨rfl,rfl⟩;obtain⟨t,ht⟩:∃t,t=(2:Int) ^ k.toNat:=⟨_,rfl⟩;rw[<-ht]at HO;rw[<-ht];clear ht;go_wp2;go_roundw
     case rel=>exact⟨j+1,om,by go_num,by rw[yP.out,<-HO.out],dJ.out,by trivial⟩
     case measure=>simp[intOf] <;> omega
  ·obtain rfl:j=len:=om;have et:ks.take j=ks:=take_of_length_le (by rw[HL.out];exact Nat.le_refl _);rw[et]at HZ;rw[et];clear et XV;go_wp2;go_ret2;exact⟨by unfold ksV ksE;rw[HZ.out];rfl,rfl⟩
theorem zjI:(prog.info? 244).map (λi=>(i.zero,i.size,i.bytes))=some (some (.int .i64 0),1,8):=oM
def OwnK(w:World)(base:Nat)(v:Value)(n:Nat)(zs:List Int):Prop:=w.ownsRow base 244 1 v n (zs.map (Value.int .i64))
theorem OwnK.nil(w:World)(base:Nat):OwnK w base (.slice none 0 0) 0 []:=World.ownsRow_nil _ _ _ _
theorem OwnK.row{base:Nat}(h:OwnK w base v n zs):∃a cap,v= .slice a n cap/\Row w a n zs:=by
 have hl:zs.length=n:=by simpa using h.1
 rcases h.2 with ⟨rfl,rfl⟩ | ⟨g,cap,cur,rfl,hb,hh,ZW,hm,hs,ht⟩
 ·exact⟨none,0,rfl,hl,om,.inl rfl⟩
 ·unfold maxLen at hm;refine⟨_,cap,rfl,hl,om,.inr ⟨g,0,rfl,λi hi=> ?_⟩⟩;rw[Nat.zero_add];have hi':i<(zs.map (Value.int .i64)).length:=by rw[length_map];omega
  have hc:=World.ownsRow.cellAt (j:=i) h om;rw[hc];simp[getD,getElem?_eq_getElem (show i<zs.length by omega)]
theorem zfH{w0 wr:World}{base B:Nat}{o:Obj}(ho:OwnK wr base v n zs)(hB:B<=base)(hb:Below B w0 wr)(hs:B<=wr.heap.size)(hg:(wr.alloc o).grownBy w' v.ownBlock):Below B w0 w':=
 (hb.alloc hs o).grown hg (by simp;omega) (λk hk=>by have:=World.ownsRow.lt ho k hk;omega)
theorem zof(s:Int)(w:World):
  Calls prog 276 #[.int .i64 s] w λe w'=>∃a cap,e= .returned (.slice a (zaT s).length cap)/\Row w' a (zaT s).length (zaT s)/\Bw w w':=by
 obtain⟨i0,kB,kQ,kR,kH⟩:=info_parts zjI;have HI:=kA (And.intro kB (And.intro kQ (And.intro kR kH)));clear kB kQ kR kH;go_enter func276,ntmps276;go_wp2
 go_loopw [3,5] (λv i wr=>∃k:Nat,k<=5/\i= .int .i64 k/\OwnK wr w.heap.size v (zbt s k).length (zbt s k)/\Bw w wr) (λ_ i _=>5 - (intOf i).toNat)
 case atStart=>exact⟨0,om,rfl,OwnK.nil _ _,Below.refl _ _⟩
 case round=>
  obtain⟨k,hk,rfl,Hc,hb⟩:=hrel;have Hp:=kA Hc;have HB:=kA hb;clear Hc hb
  by_cases hlt:k<5
  ·have hk0:(0:Int)<=(k:Int):=om;have Cw:(k:Int)<5:=om;have HK:Hid (kOk (k:Int)=true):=kA (by unfold kOk;simp;omega);have hle:=zej s k;have ha:=zp0 s HK
   by_cases hL:zcl s (k:Int)=true
   ·rw[hL]at ha;have HA:=kA (zgx hL);clear hL;obtain⟨n,hn⟩:∃n,n=(zbt s k).length:=⟨_,rfl⟩;rw[<-hn]at Hp hle;have HN:=kA hn;clear hn;have Kr:w.heap.size<=wr.heap.size:=HB.size;go_wp2_with fail;refine (zdr HK _).mono ?_;rintro e w1 ⟨rfl,rfl⟩;obtain⟨t,ht⟩:∃t,t=(2:Int) ^ (k:Int).toNat:=⟨_,rfl⟩;rw[<-ht]at ha;rw[<-ht];clear ht;go_wp2_with (at_builtin;refine wpList_append_own _ rfl (.tmp 13) (.tmp 15) 53 rfl w.heap.size 244 i0 (.int .i64 0) 1 8 underlying53 HI.1 HI.2.1 HI.2.2.1 HI.2.2.2 rfl (by decide) _ _ _ rfl (Hp.alloc _) ⟨wr.heap.size,0,none⟩ 1 1 [.int .i64 (k:Int)] rfl rfl (cell_one_new _ _ _) (by intro u hu;simp at hu;subst hu;rfl) (by unfold maxLen;omega) om (by simp;omega) ?_);intro v' w2 kJ kK _;have Kv:=kA kJ;have Cx:=kA kK;clear kJ kK;go_wp2;go_roundw
    case rel=>
     have el:(zbt s (k+1)).length=n+1:=by rw[HA.out,length_append,<-HN.out];rfl
     refine⟨k+1,om,by go_num,?_,zfH Hp (Nat.le_refl _) HB Kr Cx⟩;rw[el];unfold OwnK;rw[HA.out,map_append];exact Kv
    case measure=>simp[intOf] <;> omega
   ·have Cy:zcl s (k:Int)=false:=by simpa using hL
    rw[Cy]at ha;have HA:=kA (zhO Cy);clear hL Cy;go_wp2_with fail;refine (zdr HK _).mono ?_;rintro e w1 ⟨rfl,rfl⟩;obtain⟨t,ht⟩:∃t,t=(2:Int) ^ (k:Int).toNat:=⟨_,rfl⟩;rw[<-ht]at ha;rw[<-ht];clear ht;go_wp2;go_roundw
    case rel=>exact⟨k+1,om,by go_num,by rw[HA.out];exact Hp.out,HB⟩
    case measure=>simp[intOf] <;> omega
  ·obtain rfl:k=5:=om;rw[zei]at Hp;obtain⟨a,cap,rfl,hr⟩:=Hp.row;have HA:=kA hr;clear hr;go_wp2;go_ret;exact⟨a,cap,rfl,HA.out,HB⟩
theorem zf4(s:Int)(a:Option Addr)(len cap:Nat)(ks:List Int)(w:World)(row:Row w a len ks):
  Calls prog 195 #[.int .i64 s,.slice a len cap] w λe w'=>e= .returned (.bool (zcv s ks))/\w=w':=by
 have hJ:=kA row;clear row
 cases H8:zd8 ks with
 | true=>
  have ha:=zod s ks H8;have HV:Hid (ksV ks=ksS ks/\ksE ks=0):=kA (by unfold ksV ksE;rw[H8];exact⟨rfl,rfl⟩);clear H8;go_enter func195,ntmps195;go_wp2_with fail;refine (zli _ _ _ ks _ hJ).mono ?_;rintro e w1 ⟨rfl,rfl⟩;rw[HV.1,HV.2];clear HV hJ;obtain⟨t,ht⟩:∃t,t=ksS ks:=⟨_,rfl⟩;rw[<-ht]at ha;rw[<-ht];clear ht;go_wp2;go_ret;exact⟨by rw[<-ha];rfl,rfl⟩
 | false=>
  rw[zjG H8];have HV:Hid (ksV ks=0/\ksE ks=1):=kA (by unfold ksV ksE;rw[H8];exact⟨rfl,rfl⟩);clear H8;go_enter func195,ntmps195;go_wp2_with fail;refine (zli _ _ _ ks _ hJ).mono ?_;rintro e w1 ⟨rfl,rfl⟩;rw[HV.1,HV.2];clear HV hJ;go_wp2;go_ret;exact⟨rfl,rfl⟩
theorem zu5{b:Bool}(h:zcv s ks=b)(a:Option Addr)(len cap:Nat)(w:World)(row:Row w a len ks):
  Calls prog 195 #[.int .i64 s,.slice a len cap] w λe w'=>e= .returned (.bool b)/\w=w':=(zf4 s a len cap ks w row).mono λ_ _ ⟨he,hw⟩=>⟨by rw[he,h],hw⟩
theorem zsY(X Y X':List Value)(g:Nat)(V:List Value)(hV:(Y.drop 1).take 12=V)(yQ:V.length=12)(jB:V.toArray.all (·.oneCell')=true)(hs:zaL X 1 V=X')(w:World)(kq:Blk w g 52 Y.toArray)(hX:X.length=24)(Kg:X'.length=24)(ho:X'.toArray.all (·.oneCell')=true):
  Calls prog 300 #[.agg X.toArray,.pointer (some ⟨g,0,none⟩)] w λe w'=>e= .returned (.agg X'.toArray)/\Bw w w':=by
 have HO:=kA ho;have HS:Hid ((prog.info? 52).map (·.size)=some X'.length):=kA (by rw[Kg];kernel_rfl);have XW:Hid ((prog.info? 52).map (·.size)=some X'.toArray.size):=kA (by rw[size_toArray,Kg];kernel_rfl);have HZ:Hid (0+X'.toArray.size<=Z24.length):=kA (by rw[size_toArray,Kg];exact Nat.le_refl 24);have dO:Hid (0+X'.length<=Z24.length):=kA (by rw[Kg];exact Nat.le_refl 24);have XY:Hid (X'.length=Z24.length):=kA (by rw[Kg];rfl);have HX:=kA hX;have KP:=kA ((Blk.new w 52 X.toArray).alloc (.cells Z24.toArray 52));have KR:=kA (zbe (Blk.new (w.alloc (.cells X.toArray 52)) 52 Z24.toArray) (g':=w.heap.size+1) (by simp));have KQ:=kA ((kq.alloc (.cells X.toArray 52)).alloc (.cells Z24.toArray 52));have hg:=kq.lt;have Sz:=kA kq;clear ho hX Kg kq;have Dr:Hid ((prog.info? 46).map (·.size)=some V.length):=kA (by rw[yQ];kernel_rfl);have Yy:Hid ((prog.info? 46).map (·.size)=some V.toArray.size):=kA (by rw[size_toArray,yQ];kernel_rfl);have JO:=kA jB;have DL:=kA yQ;have Dh:Hid (((w.alloc (.cells X.toArray 52)).alloc (.cells Z24.toArray 52)).rangeAt g 1 V):=kA (hV ▸ zaF KQ.out 1 12);have jC:Hid (((w.alloc (.cells X.toArray 52)).alloc (.cells Z24.toArray 52)).there w.heap.size 1 V.toArray.size):=kA (zae KP.out (by rw[size_toArray,DL.out,HX.out];omega));have D4:Hid (Blk (((w.alloc (.cells X.toArray 52)).alloc (.cells Z24.toArray 52)).setCells w.heap.size 1 V) w.heap.size 52 X'.toArray):=kA (hs ▸ zaf V KP.out (by rw[DL.out,HX.out];omega));have cT:Hid (Blk (((w.alloc (.cells X.toArray 52)).alloc (.cells Z24.toArray 52)).setCells w.heap.size 1 V) (w.heap.size+1) 52 Z24.toArray):=kA (zat V KR.out om);have He:Hid (Bw w (((w.alloc (.cells X.toArray 52)).alloc (.cells Z24.toArray 52)).setCells w.heap.size 1 V)):=kA (zab V (zag (zaa _ _) _) (Nat.le_refl _));go_enter func300,ntmps300;go_wp2_with (first | refine wpList_load_mid rfl 46 (.tmp 4) rfl g 1 rfl V _ Dh.out underlying46 rfl Dr.out ?_ | refine wpList_store_mid rfl 46 (.tmp 6) (.tmp 5) rfl w.heap.size 1 V.toArray rfl rfl jC.out Yy.out JO.out ?_ | refine wpList_store_mid rfl 52 (.tmp 3) (.tmp 7) rfl (w.heap.size+1) 0 X'.toArray rfl rfl (zae cT.out HZ.out) XW.out HO.out ?_ | refine wpList_load_mid rfl 52 (.tmp 2) rfl w.heap.size 0 rfl X' _ (zac D4.out) underlying52 rfl HS.out ?_)
 have KW:=kA (zao XY.out ▸ zaf X' cT.out dO.out);refine fin (λW=>Blk W (w.heap.size+1) 52 X'.toArray/\Bw w W) ⟨KW.out,zab _ He.out om⟩ ?_;rintro W ⟨kr,hb⟩;have hl:=run_loadVar_mid W (w.heap.size+1) 0 52 X' _ (zac kr) underlying52 rfl HS.out;simp only[Act.put,setIfInBounds_toArray,set_cons_zero,set_cons_succ];exact bodyPost_ret (v:= .agg X'.toArray) (zaD results300 rfl hl) rfl ⟨rfl,hb⟩
theorem zsZ(X Y X':List Value)(g:Nat)(l2:Int)(x23:Value)(JP:X[23]? =some x23)(JQ:Y[23]? =some (.int .i64 l2))(hs:X.set 23 (.int .i64 l2)=X')(w:World)(kq:Blk w g 52 Y.toArray)(hX:X.length=24)(Kg:X'.length=24)(ho:X'.toArray.all (·.oneCell')=true):
  Calls prog 303 #[.agg X.toArray,.pointer (some ⟨g,0,none⟩)] w λe w'=>e= .returned (.agg X'.toArray)/\Bw w w':=by
 have HO:=kA ho;have HS:Hid ((prog.info? 52).map (·.size)=some X'.length):=kA (by rw[Kg];kernel_rfl);have XW:Hid ((prog.info? 52).map (·.size)=some X'.toArray.size):=kA (by rw[size_toArray,Kg];kernel_rfl);have HZ:Hid (0+X'.toArray.size<=Z24.length):=kA (by rw[size_toArray,Kg];exact Nat.le_refl 24);have dO:Hid (0+X'.length<=Z24.length):=kA (by rw[Kg];exact Nat.le_refl 24);have XY:Hid (X'.length=Z24.length):=kA (by rw[Kg];rfl);have HX:=kA hX;have KP:=kA ((Blk.new w 52 X.toArray).alloc (.cells Z24.toArray 52));have KR:=kA (zbe (Blk.new (w.alloc (.cells X.toArray 52)) 52 Z24.toArray) (g':=w.heap.size+1) (by simp));have KQ:=kA ((kq.alloc (.cells X.toArray 52)).alloc (.cells Z24.toArray 52));have hg:=kq.lt;have Sz:=kA kq;clear ho hX Kg kq;have N5:w.cell? ⟨g,23,none⟩=some (.int .i64 l2):=by rw[Sz.cell 23];simpa using JQ
 have N6:((w.alloc (.cells X.toArray 52)).alloc (.cells Z24.toArray 52)).cell? ⟨w.heap.size,23,none⟩=some x23:=by rw[KP.cell 23];simpa using JP
 have f23:((w.alloc (.cells X.toArray 52)).alloc (.cells Z24.toArray 52)).frozen? ⟨w.heap.size,23,none⟩=false:=KP.frozen 23;have D4:Hid (Blk ((w.alloc (.cells X'.toArray 52)).alloc (.cells Z24.toArray 52)) w.heap.size 52 X'.toArray):=kA ((Blk.new w 52 X'.toArray).alloc (.cells Z24.toArray 52));have cT:Hid (Blk ((w.alloc (.cells X'.toArray 52)).alloc (.cells Z24.toArray 52)) (w.heap.size+1) 52 Z24.toArray):=kA (zbe (Blk.new (w.alloc (.cells X'.toArray 52)) 52 Z24.toArray) (g':=w.heap.size+1) (by simp));have He:Hid (Bw w ((w.alloc (.cells X'.toArray 52)).alloc (.cells Z24.toArray 52))):=kA (zag (zaa _ _) _);go_enter func303,ntmps303;go_wp2_with (first | refine wpList_store_mid rfl 52 (.tmp 3) (.tmp 7) rfl (w.heap.size+1) 0 X'.toArray rfl rfl (zae cT HZ) XW HO ?_ | refine wpList_load_mid rfl 52 (.tmp 2) rfl w.heap.size 0 rfl X' _ (zac D4) underlying52 rfl HS ?_)
 have KW:=kA (zao XY.out ▸ zaf X' cT.out dO.out);refine fin (λW=>Blk W (w.heap.size+1) 52 X'.toArray/\Bw w W) ⟨KW.out,zab _ He.out om⟩ ?_;rintro W ⟨kr,hb⟩;have hl:=run_loadVar_mid W (w.heap.size+1) 0 52 X' _ (zac kr) underlying52 rfl HS.out;simp only[Act.put,setIfInBounds_toArray,set_cons_zero,set_cons_succ];exact bodyPost_ret (v:= .agg X'.toArray) (zaD results303 rfl hl) rfl ⟨rfl,hb⟩
theorem zwf(X X':List Value)(hs:X=X')(w:World)(hX:X.length=24)(Kg:X'.length=24)(ho:X'.toArray.all (·.oneCell')=true):
  Calls prog 304 #[.agg X.toArray] w λe w'=>e= .returned (.agg X'.toArray)/\Bw w w':=by
 have HO:=kA ho;have HS:Hid ((prog.info? 52).map (·.size)=some X'.length):=kA (by rw[Kg];kernel_rfl);have XW:Hid ((prog.info? 52).map (·.size)=some X'.toArray.size):=kA (by rw[size_toArray,Kg];kernel_rfl);have HZ:Hid (0+X'.toArray.size<=Z24.length):=kA (by rw[size_toArray,Kg];exact Nat.le_refl 24);have dO:Hid (0+X'.length<=Z24.length):=kA (by rw[Kg];exact Nat.le_refl 24);have XY:Hid (X'.length=Z24.length):=kA (by rw[Kg];rfl);have HX:=kA hX;have KP:=kA ((Blk.new w 52 X.toArray).alloc (.cells Z24.toArray 52));have KR:=kA (zbe (Blk.new (w.alloc (.cells X.toArray 52)) 52 Z24.toArray) (g':=w.heap.size+1) (by simp))
 skip
 skip
 skip
 clear ho hX Kg;have Hs:=kA hs;clear hs;have D4:Hid (Blk ((w.alloc (.cells X.toArray 52)).alloc (.cells Z24.toArray 52)) w.heap.size 52 X'.toArray):=kA (Hs.out ▸ KP.out);have cT:Hid (Blk ((w.alloc (.cells X.toArray 52)).alloc (.cells Z24.toArray 52)) (w.heap.size+1) 52 Z24.toArray):=kA (KR.out);have He:Hid (Bw w ((w.alloc (.cells X.toArray 52)).alloc (.cells Z24.toArray 52))):=kA (zag (zaa _ _) _);go_enter func304,ntmps304;go_wp2_with (first | refine wpList_store_mid rfl 52 (.tmp 2) (.tmp 3) rfl (w.heap.size+1) 0 X'.toArray rfl rfl (zae cT.out HZ.out) XW.out HO.out ?_ | refine wpList_load_mid rfl 52 (.tmp 1) rfl w.heap.size 0 rfl X' _ (zac D4.out) underlying52 rfl HS.out ?_)
 have KW:=kA (zao XY.out ▸ zaf X' cT.out dO.out);refine fin (λW=>Blk W (w.heap.size+1) 52 X'.toArray/\Bw w W) ⟨KW.out,zab _ He.out om⟩ ?_;rintro W ⟨kr,hb⟩;have hl:=run_loadVar_mid W (w.heap.size+1) 0 52 X' _ (zac kr) underlying52 rfl HS.out;simp only[Act.put,setIfInBounds_toArray,set_cons_zero,set_cons_succ];exact bodyPost_ret (v:= .agg X'.toArray) (zaD results304 rfl hl) rfl ⟨rfl,hb⟩
theorem zs0(X Y X':List Value)(g:Nat)(V:List Value)(m2:Int)(x13:Value)(JR:X[13]? =some x13)(JS:Y[13]? =some (.int .i64 m2))(hV:(Y.drop 14).take 6=V)(yQ:V.length=6)(jB:V.toArray.all (·.oneCell')=true)(hs:zaL (X.set 13 (.int .i64 m2)) 14 V=X')(w:World)(kq:Blk w g 52 Y.toArray)(hX:X.length=24)(Kg:X'.length=24)(ho:X'.toArray.all (·.oneCell')=true):
  Calls prog 301 #[.agg X.toArray,.pointer (some ⟨g,0,none⟩)] w λe w'=>e= .returned (.agg X'.toArray)/\Bw w w':=by
 have HO:=kA ho;have HS:Hid ((prog.info? 52).map (·.size)=some X'.length):=kA (by rw[Kg];kernel_rfl);have XW:Hid ((prog.info? 52).map (·.size)=some X'.toArray.size):=kA (by rw[size_toArray,Kg];kernel_rfl);have HZ:Hid (0+X'.toArray.size<=Z24.length):=kA (by rw[size_toArray,Kg];exact Nat.le_refl 24);have dO:Hid (0+X'.length<=Z24.length):=kA (by rw[Kg];exact Nat.le_refl 24);have XY:Hid (X'.length=Z24.length):=kA (by rw[Kg];rfl);have HX:=kA hX;have Dr:Hid ((prog.info? 50).map (·.size)=some V.length):=kA (by rw[yQ];kernel_rfl);have Yy:Hid ((prog.info? 50).map (·.size)=some V.toArray.size):=kA (by rw[size_toArray,yQ];kernel_rfl);have JO:=kA jB;have T6:=kA hV;have DL:=kA yQ;have Hs:=kA hs;clear hV yQ jB hs;have ZP:=kA kq;have hg:=kq.lt;clear ho hX Kg kq;go_enter func301,ntmps301;go_wp2_with fail;refine fin (λW=>Blk W w.heap.size 52 X.toArray/\Blk W (w.heap.size+1) 52 Z24.toArray/\Blk W g 52 Y.toArray/\Bw w W) ⟨(Blk.new w 52 X.toArray).alloc (.cells Z24.toArray 52),zbe (Blk.new (w.alloc (.cells X.toArray 52)) 52 Z24.toArray) (by simp),(ZP.out.alloc _).alloc _,zag (zaa _ _) _⟩ ?_;rintro W ⟨kp,kr,kq,hb⟩;have KP:=kA kp;have KR:=kA kr;have KQ:=kA kq;have HB:=kA hb;clear kp kr hb kq ZP;have q13:∀u,Blk u g 52 Y.toArray->u.cell? ⟨g,13,none⟩=some (.int .i64 m2)/\u.rangeAt g 14 V:=λ_ k=>⟨by rw[k.cell 13];simpa using JS,T6.out ▸ zaF k 14 6⟩;have Sd:=kA q13;clear q13;have N7:W.cell? ⟨w.heap.size,13,none⟩=some x13:=by rw[KP.out.cell 13];simpa using JR
 have f13:W.frozen? ⟨w.heap.size,13,none⟩=false:=KP.out.frozen 13;have hu:=underlying50;go_wp2_with fail;refine wp_region_held_drew (S:=λw'=>w'.cell? ⟨g,13,none⟩=some (.int .i64 m2)/\w'.rangeAt g 14 V) oM (Sd.out _ KQ.out) (λhHeld=> ?_);refine tk 0 hHeld ?_;refine tk 1 hHeld ?_;refine tk 2 hHeld ?_;refine tkl 3 rfl (yieldsIf_load_mid (by rfl) _ _ rfl _ _ rfl _ _ (λ_ h=>h.2) hu rfl Dr.out) hHeld ?_;refine tk 4 hHeld ?_;refine rd 5 (λK hK=> ?_);go_simp;refine hK.out _ _ (Sd.out _ (KQ.out.far (p:=⟨w.heap.size,13,none⟩) (by simp;omega) _)) (λhHeld=> ?_);clear hK K;refine tk 6 hHeld ?_;have K1:=kA (show Blk (W.setCell ⟨w.heap.size,13,none⟩ (.int .i64 m2)) w.heap.size 52 (X.set 13 (.int .i64 m2)).toArray by have:=KP.out.set_ 13 (.int .i64 m2);simpa using this);refine rd 7 (λK hK=> ?_);rw[if_pos (by rfl)];refine wp_store_mid 50 _ _ rfl w.heap.size 14 V.toArray rfl rfl (zae (Blk.drew K1.out) (by rw[size_toArray,DL.out,length_set,HX.out];omega)) Yy.out JO.out ?_;refine hK.out _ _ (Sd.out _ (zat V (KQ.out.far (p:=⟨w.heap.size,13,none⟩) (by simp;omega) _) om)) (λhHeld=> ?_);clear hK K;refine wpAnyH_done oM ?_ _;clear hHeld;refine fin (λW=>Blk W w.heap.size 52 X'.toArray/\Blk W (w.heap.size+1) 52 Z24.toArray/\Bw w W) ⟨Hs.out ▸ zaf V (Blk.drew K1.out) (by rw[DL.out,length_set,HX.out];omega),zat V (Blk.drew (KR.out.far (p:=⟨w.heap.size,13,none⟩) (by simp) _)) om,zab V (za5 (HB.out.setCell (p:=⟨w.heap.size,13,none⟩) (Nat.le_refl _) _)) (Nat.le_refl _)⟩ ?_;rintro W2 ⟨kp,kr,hb⟩;have D4:=kA kp;have cT:=kA kr;have He:=kA hb;clear kp kr hb KP KR HB KQ;go_wp2_with (first | refine wpList_store_mid rfl 52 (.tmp 3) (.tmp 10) rfl (w.heap.size+1) 0 X'.toArray rfl rfl (zae cT.out HZ.out) XW.out HO.out ?_ | refine wpList_load_mid rfl 52 (.tmp 2) rfl w.heap.size 0 rfl X' _ (zac D4.out) underlying52 rfl HS.out ?_)
 have KW:=kA (zao XY.out ▸ zaf X' cT.out dO.out);refine fin (λW=>Blk W (w.heap.size+1) 52 X'.toArray/\Bw w W) ⟨KW.out,zab _ He.out om⟩ ?_;rintro W ⟨kr,hb⟩;have hl:=run_loadVar_mid W (w.heap.size+1) 0 52 X' _ (zac kr) underlying52 rfl HS.out;simp only[Act.put,setIfInBounds_toArray];exact bodyPost_ret (v:= .agg X'.toArray) (zaD results301 rfl hl) rfl ⟨rfl,hb⟩
theorem zs1(X Y X':List Value)(g:Nat)(p2 a2:Int)(c2:Bool)(x20 x21 x22:Value)(JU:X[20]? =some x20)(JV:X[21]? =some x21)(JW:X[22]? =some x22)(JX:Y[20]? =some (.int .i64 p2))(JY:Y[21]? =some (.int .i64 a2))(JZ:Y[22]? =some (.bool c2))(hs:((X.set 20 (.int .i64 p2)).set 21 (.int .i64 a2)).set 22 (.bool c2)=X')(w:World)(kq:Blk w g 52 Y.toArray)(hX:X.length=24)(Kg:X'.length=24)(ho:X'.toArray.all (·.oneCell')=true):
  Calls prog 302 #[.agg X.toArray,.pointer (some ⟨g,0,none⟩)] w λe w'=>e= .returned (.agg X'.toArray)/\Bw w w':=by
 have HO:=kA ho;have HS:Hid ((prog.info? 52).map (·.size)=some X'.length):=kA (by rw[Kg];kernel_rfl);have XW:Hid ((prog.info? 52).map (·.size)=some X'.toArray.size):=kA (by rw[size_toArray,Kg];kernel_rfl);have HZ:Hid (0+X'.toArray.size<=Z24.length):=kA (by rw[size_toArray,Kg];exact Nat.le_refl 24);have dO:Hid (0+X'.length<=Z24.length):=kA (by rw[Kg];exact Nat.le_refl 24);have XY:Hid (X'.length=Z24.length):=kA (by rw[Kg];rfl);have HX:=kA hX;have Hs:=kA hs;clear hs;have ZP:=kA kq;have hg:=kq.lt;clear ho hX Kg kq;go_enter func302,ntmps302;go_wp2_with fail;refine fin (λW=>Blk W w.heap.size 52 X.toArray/\Blk W (w.heap.size+1) 52 Z24.toArray/\Blk W g 52 Y.toArray/\Bw w W) ⟨(Blk.new w 52 X.toArray).alloc (.cells Z24.toArray 52),zbe (Blk.new (w.alloc (.cells X.toArray 52)) 52 Z24.toArray) (by simp),(ZP.alloc _).alloc _,zag (zaa _ _) _⟩ ?_;rintro W ⟨kp,kr,kq,hb⟩;have KP:=kA kp;have KR:=kA kr;have KQ:=kA kq;have HB:=kA hb;clear kp kr hb kq ZP;have TB:∀u,Blk u g 52 Y.toArray->u.cell? ⟨g,20,none⟩=some (.int .i64 p2)/\u.cell? ⟨g,21,none⟩=some (.int .i64 a2)/\u.cell? ⟨g,22,none⟩=some (.bool c2):=λ_ k=>⟨by rw[k.cell 20];simpa using JX,by rw[k.cell 21];simpa using JY,by rw[k.cell 22];simpa using JZ⟩;have JH:=kA TB;clear TB;have N8:W.cell? ⟨w.heap.size,20,none⟩=some x20:=by rw[KP.cell 20];simpa using JU
 have f20:W.frozen? ⟨w.heap.size,20,none⟩=false:=KP.frozen 20;have K1:=kA (show Blk (W.setCell ⟨w.heap.size,20,none⟩ (.int .i64 p2)) w.heap.size 52 (X.set 20 (.int .i64 p2)).toArray by have:=KP.set_ 20 (.int .i64 p2);simpa using this);have N9:(W.setCell ⟨w.heap.size,20,none⟩ (.int .i64 p2)).cell? ⟨w.heap.size,21,none⟩=some x21:=by rw[K1.cell 21];simpa using JV
 have f21:(W.setCell ⟨w.heap.size,20,none⟩ (.int .i64 p2)).frozen? ⟨w.heap.size,21,none⟩=false:=K1.frozen 21;have K2:=kA (show Blk ((W.setCell ⟨w.heap.size,20,none⟩ (.int .i64 p2)).setCell ⟨w.heap.size,21,none⟩ (.int .i64 a2)) w.heap.size 52 ((X.set 20 (.int .i64 p2)).set 21 (.int .i64 a2)).toArray by have:=K1.set_ 21 (.int .i64 a2);simpa using this);have ma:((W.setCell ⟨w.heap.size,20,none⟩ (.int .i64 p2)).setCell ⟨w.heap.size,21,none⟩ (.int .i64 a2)).cell? ⟨w.heap.size,22,none⟩=some x22:=by rw[K2.cell 22];simpa using JW
 have f22:((W.setCell ⟨w.heap.size,20,none⟩ (.int .i64 p2)).setCell ⟨w.heap.size,21,none⟩ (.int .i64 a2)).frozen? ⟨w.heap.size,22,none⟩=false:=K2.out.frozen 22;have K3:=kA (show Blk (((W.setCell ⟨w.heap.size,20,none⟩ (.int .i64 p2)).setCell ⟨w.heap.size,21,none⟩ (.int .i64 a2)).setCell ⟨w.heap.size,22,none⟩ (.bool c2)) w.heap.size 52 (((X.set 20 (.int .i64 p2)).set 21 (.int .i64 a2)).set 22 (.bool c2)).toArray by have:=K2.out.set_ 22 (.bool c2);simpa using this);go_wp2_with fail;refine wp_region_held_drew (S:=λw'=>w'.cell? ⟨g,20,none⟩=some (.int .i64 p2)/\w'.cell? ⟨g,21,none⟩=some (.int .i64 a2)/\w'.cell? ⟨g,22,none⟩=some (.bool c2)) oM (JH.out _ KQ.out) (λhHeld=> ?_);refine tk 0 hHeld ?_;refine tk 1 hHeld ?_;refine tk 2 hHeld ?_;refine tk 3 hHeld ?_;refine tk 4 hHeld ?_;refine tk 5 hHeld ?_;refine tk 6 hHeld ?_;refine rd 7 (λK hK=> ?_);go_simp;refine hK.out _ _ (JH.out _ (KQ.out.far (p:=⟨w.heap.size,20,none⟩) (by simp;omega) _)) (λhHeld=> ?_);clear hK K;refine tk 8 hHeld ?_;refine rd 9 (λK hK=> ?_);go_simp;refine hK.out _ _ (JH.out _ ((KQ.out.far (p:=⟨w.heap.size,20,none⟩) (by simp;omega) _).far (p:=⟨w.heap.size,21,none⟩) (by simp;omega) _)) (λhHeld=> ?_);clear hK K;refine tk 10 hHeld ?_;refine rd 11 (λK hK=> ?_);go_simp;refine hK.out _ _ (JH.out _ (((KQ.out.far (p:=⟨w.heap.size,20,none⟩) (by simp;omega) _).far (p:=⟨w.heap.size,21,none⟩) (by simp;omega) _).far (p:=⟨w.heap.size,22,none⟩) (by simp;omega) _)) (λhHeld=> ?_);clear hK K;refine wpAnyH_done oM ?_ _;clear hHeld;refine fin (λW=>Blk W w.heap.size 52 X'.toArray/\Blk W (w.heap.size+1) 52 Z24.toArray/\Bw w W) ⟨Hs.out ▸ Blk.drew (Blk.drew (Blk.drew (Blk.drew K3.out))),Blk.drew (Blk.drew (Blk.drew (Blk.drew (((KR.out.far (p:=⟨w.heap.size,20,none⟩) (by simp) _).far (p:=⟨w.heap.size,21,none⟩) (by simp) _).far (p:=⟨w.heap.size,22,none⟩) (by simp) _)))),za5 (((HB.out.setCell (p:=⟨w.heap.size,20,none⟩) (Nat.le_refl _) _).setCell (p:=⟨w.heap.size,21,none⟩) (Nat.le_refl _) _).setCell (p:=⟨w.heap.size,22,none⟩) (Nat.le_refl _) _)⟩ ?_;rintro W2 ⟨kp,kr,hb⟩;have D4:=kA kp;have cT:=kA kr;have He:=kA hb;clear kp kr hb KP KR HB KQ;go_wp2_with (first | refine wpList_store_mid rfl 52 (.tmp 3) (.tmp 13) rfl (w.heap.size+1) 0 X'.toArray rfl rfl (zae cT.out HZ.out) XW.out HO.out ?_ | refine wpList_load_mid rfl 52 (.tmp 2) rfl w.heap.size 0 rfl X' _ (zac D4.out) underlying52 rfl HS.out ?_)
 have KW:=kA (zao XY.out ▸ zaf X' cT.out dO.out);refine fin (λW=>Blk W (w.heap.size+1) 52 X'.toArray/\Bw w W) ⟨KW.out,zab _ He.out om⟩ ?_;rintro W ⟨kr,hb⟩;have hl:=run_loadVar_mid W (w.heap.size+1) 0 52 X' _ (zac kr) underlying52 rfl HS.out;simp only[Act.put,setIfInBounds_toArray];exact bodyPost_ret (v:= .agg X'.toArray) (zaD results302 rfl hl) rfl ⟨rfl,hb⟩
def zb3(g:Nat)(k:Int):Array Value:=if k=4 then #[] else #[.pointer (some ⟨g,0,none⟩)]
def zex(k:Int):Nat:=if k=0 then 300 else if k=1 then 301 else if k=2 then 302 else if k=3 then 303 else 304
theorem zog:zbs 300:=λ_ _=>oM
theorem zoh:zbs 301:=λ_ _=>oM
theorem zoi:zbs 302:=λ_ _=>oM
theorem zoj:zbs 303:=λ_ _=>oM
theorem zok:zbs 304:=λ_ _=>oM
theorem zp3(hk:kOk k=true):zbs (zex k):=by
 have e:∀j:Int,zex j=(if j=0 then 300 else if j=1 then 301 else if j=2 then 302 else if j=3 then 303 else 304):=λ_=>rfl
 rcases zbf hk with rfl | rfl | rfl | rfl | rfl
 ·rw[e,if_pos om];exact zog
 ·rw[e,if_neg om,if_pos om];exact zoh
 ·rw[e,if_neg om,if_neg om,if_pos om];exact zoi
 ·rw[e,if_neg om,if_neg om,if_neg om,if_pos om];exact zoj
 ·rw[e,if_neg om,if_neg om,if_neg om,if_neg om];exact zok
theorem zyi(hk:kOk k=true)(g:Nat)(P Q:PT)(w:World)(kq:Blk w g 52 (pl Q).toArray):
  Calls prog (zex k) (#[.agg (pl P).toArray]++zb3 g k) w λe w'=>e= .returned (.agg (pl (zcP k P Q)).toArray)/\Bw w w':=by
 obtain⟨h,M,m,B,p,a,c,l⟩:=P;obtain⟨h2,N,m2,B2,p2,a2,c2,l2⟩:=Q;rcases zbf hk with rfl | rfl | rfl | rfl | rfl
 ·exact zsY _ _ (PL h N m B p a c l) g _ rfl rfl (all_oneCell_toArray (λv hv=>by
   have e:((PL h2 N m2 B2 p2 a2 c2 l2).drop 1).take 12=[.int .i64 (N 0),.int .i64 (N 1),.int .i64 (N 2),.int .i64 (N 3),.int .i64 (N 4),.int .i64 (N 5),.int .i64 (N 6),.int .i64 (N 7),.int .i64 (N 8),.int .i64 (N 9),.int .i64 (N 10),.int .i64 (N 11)]:=rfl;have hv:v∈[.int .i64 (N 0),.int .i64 (N 1),.int .i64 (N 2),.int .i64 (N 3),.int .i64 (N 4),.int .i64 (N 5),.int .i64 (N 6),.int .i64 (N 7),.int .i64 (N 8),.int .i64 (N 9),.int .i64 (N 10),.int .i64 (N 11)]:=hv;simp only[mem_cons,not_mem_nil,or_false]at hv
   rcases hv with rfl | rfl | rfl | rfl | rfl | rfl | rfl | rfl | rfl | rfl | rfl | rfl <;> rfl)) rfl w kq rfl rfl (zfE _ _ _ _ _ _ _ _)
 ·exact zs0 _ _ (PL h M m2 B2 p a c l) g _ m2 (.int .i64 m) rfl rfl rfl rfl (all_oneCell_toArray (λv hv=>by
   have hv:v∈[.int .i64 (B2 0),.int .i64 (B2 1),.int .i64 (B2 2),.int .i64 (B2 3),.int .i64 (B2 4),.int .i64 (B2 5)]:=hv;simp only[mem_cons,not_mem_nil,or_false]at hv
   rcases hv with rfl | rfl | rfl | rfl | rfl | rfl <;> rfl)) rfl w kq rfl rfl (zfE _ _ _ _ _ _ _ _)
 ·exact zs1 _ _ (PL h M m B p2 a2 c2 l) g p2 a2 c2 (.int .i64 p) (.int .i64 a) (.bool c) rfl rfl rfl rfl rfl rfl rfl w kq rfl rfl (zfE _ _ _ _ _ _ _ _)
 ·exact zsZ _ _ (PL h M m B p a c l2) g l2 (.int .i64 l) rfl rfl rfl w kq rfl rfl (zfE _ _ _ _ _ _ _ _)
 ·exact zwf _ (PL h M m B p a c l) rfl w rfl rfl (zfE _ _ _ _ _ _ _ _)
theorem zs2(w:World)(o o':Obj):({ w.alloc o with heap:=(w.alloc o).heap.setIfInBounds w.heap.size o' }:World)=w.alloc o':=by
 have h:(w.alloc o).heap.setIfInBounds w.heap.size o'=(w.alloc o').heap:=by
  show (w.heap.push o).setIfInBounds w.heap.size o'=w.heap.push o';refine Array.ext' ?_;rw[Array.toList_setIfInBounds,Array.toList_push,Array.toList_push,<-Array.length_toList,set_append_right _ _ (Nat.le_refl _)];simp
 rw[h];rfl
theorem kind_law:Go.Maps.Keyed prog 244:=Go.Maps.int_keyed underlying244
theorem zmL{es:List MapEntry}{r:Option (Nat × Value)}(h:Instr.findNow (.int .i64) (.int .i64 k) es 0=some r):(Instr.findKey 244 (.int .i64 k) es).run prog w= .ok r w:=by
 unfold Instr.findKey;simp only[Sem.run_bind,run_underlying underlying244,Result.andThen,h];rfl
theorem zmM(hk:kOk k=true):keyOf prog 244 (.int .i64 k)=some (.int .i64 k):=by
 refine Go.Maps.keyOf_int_mk underlying244 ?_;rcases zbf hk with rfl | rfl | rfl | rfl | rfl <;> decide
theorem zgz(w:World)(es:Array MapEntry)(n b:Nat)(hb:w.heap.size=b){k:Int}(hk:kOk k=true)(v:Value)(hn:Instr.findNow (.int .i64) (.int .i64 k) es.toList 0=some none):
  (Instr.mapUpdate 359 (.map (some b)) (.int .i64 k) v).run prog (w.alloc (.map es n))= .ok () (w.alloc (.map (es.push ⟨.int .i64 k,v,n⟩) (n+1))):=by
 subst hb;have hh:(w.alloc (.map es n)).heap[w.heap.size]? =some (.map es n):=heap_alloc_new w (.map es n);simp[Instr.mapUpdate,run_underlying underlying359,MapKept.run_getObj_map hh,kind_law.check (w.alloc (.map es n)) false (zmM hk),zmL hn,MapKept.run_setObj_map _ hh,Result.andThen];exact zs2 w _ _
theorem zgA{es:Array MapEntry}(hb:w.heap[b]? =some (.map es n)){k:Int}(hk:kOk k=true){i:Nat}{v:Value}(hf:Instr.findNow (.int .i64) (.int .i64 k) es.toList 0=some (some (i,v))):
  (Instr.lookup 359 (.map (some b)) (.int .i64 k) false).run prog w= .ok v w:=by
 simp[Instr.lookup,run_underlying underlying359,MapKept.run_getObj_map hb,kind_law.check w _ (zmM hk),zmL hf,Result.andThen]
def zjJ(g:Nat):Array MapEntry:= #[⟨.int .i64 0,.func (.func (zex 0)) #[] (zb3 g 0),0⟩,⟨.int .i64 1,.func (.func (zex 1)) #[] (zb3 g 1),1⟩,⟨.int .i64 2,.func (.func (zex 2)) #[] (zb3 g 2),2⟩,⟨.int .i64 3,.func (.func (zex 3)) #[] (zb3 g 3),3⟩,⟨.int .i64 4,.func (.func (zex 4)) #[] (zb3 g 4),4⟩]
theorem zs3(hb:w.heap[b]? =some (.map (zjJ g) 5)){k:Int}(hk:kOk k=true):
  (Instr.lookup 359 (.map (some b)) (.int .i64 k) false).run prog w= .ok (.func (.func (zex k)) #[] (zb3 g k)) w:=by
 rcases zbf hk with rfl | rfl | rfl | rfl | rfl
 ·exact zgA hb hk (i:=0) rfl
 ·exact zgA hb hk (i:=1) rfl
 ·exact zgA hb hk (i:=2) rfl
 ·exact zgA hb hk (i:=3) rfl
 ·exact zgA hb hk (i:=4) rfl
theorem zlj(X:List Value)(w:World):
  Calls prog 274 #[.agg X.toArray] w λe w'=>e= .returned (.map (some (w.heap.size+1)))/\w'=(w.alloc (.cells X.toArray 52)).alloc (.map (zjJ w.heap.size) 5):=by
 have X3:= @run_makeMap prog;have xr:=zgz (w.alloc (.cells X.toArray 52)) #[] 0 (w.heap.size+1) (by simp) (k:=0) rfl (.func (.func (zex 0)) #[] (zb3 w.heap.size 0)) rfl;have cW:=zgz (w.alloc (.cells X.toArray 52)) #[⟨.int .i64 0,.func (.func (zex 0)) #[] (zb3 w.heap.size 0),0⟩] 1 (w.heap.size+1) (by simp) (k:=1) rfl (.func (.func (zex 1)) #[] (zb3 w.heap.size 1)) rfl;have xu:=zgz (w.alloc (.cells X.toArray 52)) #[⟨.int .i64 0,.func (.func (zex 0)) #[] (zb3 w.heap.size 0),0⟩,⟨.int .i64 1,.func (.func (zex 1)) #[] (zb3 w.heap.size 1),1⟩] 2 (w.heap.size+1) (by simp) (k:=2) rfl (.func (.func (zex 2)) #[] (zb3 w.heap.size 2)) rfl;have Dt:=zgz (w.alloc (.cells X.toArray 52)) #[⟨.int .i64 0,.func (.func (zex 0)) #[] (zb3 w.heap.size 0),0⟩,⟨.int .i64 1,.func (.func (zex 1)) #[] (zb3 w.heap.size 1),1⟩,⟨.int .i64 2,.func (.func (zex 2)) #[] (zb3 w.heap.size 2),2⟩] 3 (w.heap.size+1) (by simp) (k:=3) rfl (.func (.func (zex 3)) #[] (zb3 w.heap.size 3)) rfl;have Xh:=zgz (w.alloc (.cells X.toArray 52)) #[⟨.int .i64 0,.func (.func (zex 0)) #[] (zb3 w.heap.size 0),0⟩,⟨.int .i64 1,.func (.func (zex 1)) #[] (zb3 w.heap.size 1),1⟩,⟨.int .i64 2,.func (.func (zex 2)) #[] (zb3 w.heap.size 2),2⟩,⟨.int .i64 3,.func (.func (zex 3)) #[] (zb3 w.heap.size 3),3⟩] 4 (w.heap.size+1) (by simp) (k:=4) rfl (.func (.func (zex 4)) #[] (zb3 w.heap.size 4)) rfl;rw[show zex 0=300 from rfl,show zb3 w.heap.size 0= #[.pointer (some ⟨w.heap.size,0,none⟩)] from rfl]at xr cW xu Dt Xh;rw[show zex 1=301 from rfl,show zb3 w.heap.size 1= #[.pointer (some ⟨w.heap.size,0,none⟩)] from rfl]at cW xu Dt Xh;rw[show zex 2=302 from rfl,show zb3 w.heap.size 2= #[.pointer (some ⟨w.heap.size,0,none⟩)] from rfl]at xu Dt Xh;rw[show zex 3=303 from rfl,show zb3 w.heap.size 3= #[.pointer (some ⟨w.heap.size,0,none⟩)] from rfl]at Dt Xh;rw[show zex 4=304 from rfl,show zb3 w.heap.size 4= #[] from rfl]at Xh;simp only[push_toArray,nil_append,cons_append]at xr cW xu Dt Xh;go_enter func274,ntmps274;go_wp2;go_ret;exact⟨rfl,rfl⟩
theorem zol(X:List Value)(w:World):
  Calls prog 274 #[.agg X.toArray] w λe w'=>∃G GM,e= .returned (.map (some GM))/\w.heap.size<=G/\w'.heap[GM]? =some (.map (zjJ G) 5)/\Blk w' G 52 X.toArray/\Bw w w':=by
 refine (zlj X w).mono ?_;rintro e w' ⟨rfl,rfl⟩;refine⟨w.heap.size,w.heap.size+1,rfl,Nat.le_refl _,?_,(Blk.new w 52 X.toArray).alloc _,zag (zaa _ _) _⟩;have h:=heap_alloc_new (w.alloc (.cells X.toArray 52)) (.map (zjJ w.heap.size) 5);rw[World.size_alloc]at h;exact h
theorem zs4{es:Array MapEntry}(h:w.heap[b]? =some (.map es n))(hb:Bw w w'):w'.heap[b]? =some (.map es n):=(hb.block b (Array.getElem?_eq_some_iff.1 h).1).trans h
theorem map_set{es:Array MapEntry}(h:w.heap[b]? =some (.map es n)){g t:Nat}{cs:Array Value}(hg:Blk w g t cs)(o:Nat)(v:Value):(w.setCell ⟨g,o,none⟩ v).heap[b]? =some (.map es n):=by
 have Ho:b≠g:=λe=>by subst e;unfold Blk at hg;rw[hg]at h;cases h
 rw[<-h];simp[World.setCell,Array.getElem?_modify,Ne.symm Ho]
theorem zmN:∀ (vs:List Value) {w:World} {b n:Nat} {es:Array MapEntry} (_:w.heap[b]? =some (.map es n)) {g t:Nat} {cs:Array Value} (_:Blk w g t cs) (o:Nat),(w.setCells g o vs).heap[b]? =some (.map es n)
 | [],_,_,_,_,h,_,_,_,_,_=>h
 | v::vs,_,_,_,_,h,_,_,_,hg,o=>zmN vs (map_set h hg o v) (hg.set_ o v) (o+1)
theorem zp4(P Q:PT)(a:Option Addr)(len cap:Nat)(ks:List Int)(w:World)(Kl:0<=P.1/\P.1<=31)(H8:zd8 ks=true)(row:Row w a len ks):
  Calls prog 232 #[.agg (pl P).toArray,.agg (pl Q).toArray,.slice a len cap] w λe w'=>e= .returned (.agg (pl (zfU P Q ks)).toArray)/\Bw w w':=by
 have HL:=kA row.1;have Hy:=row.2.1;have hJ:=kA row;have dJ:=kA H8;clear row H8;have KQ:=kA (zbe ((Blk.new (w.alloc (.cells (pl P).toArray 52)) 52 (pl Q).toArray).alloc (.cells (pl zT).toArray 52)) (g':=w.heap.size+1) (by simp));go_enter func232,ntmps232;go_wp2_with (refine wpList_load_mid rfl 52 (.tmp 4) rfl (w.heap.size+1) 0 rfl (pl Q) _ (zac KQ) underlying52 rfl (zaJ Q) ?_);refine (zol (pl Q) _).mono ?_;rintro e w1 ⟨G,GM,rfl,hG,hm,kg,b1⟩;have SC:w.heap.size+1+1+1<=G:=by simpa using hG
 have KP:=kA ((((Blk.new w 52 (pl P).toArray).alloc (.cells (pl Q).toArray 52)).alloc (.cells (pl zT).toArray 52)).keep b1);have KR:=kA (zbe ((Blk.new ((w.alloc (.cells (pl P).toArray 52)).alloc (.cells (pl Q).toArray 52)) 52 (pl zT).toArray).keep b1) (g':=w.heap.size+1+1) (by simp));have HB:=kA (zad (zag (zag (zaa _ _) _) _) b1);have HM:=kA hm;have KG:=kA kg;clear b1 hm kg hG KQ;go_wp2
 go_loopw [14] (λi wr=>∃j:Nat,∃P':PT,j<=len/\i= .int .i64 j/\P'=zfU P Q (ks.take j)/\(0<=P'.1/\P'.1<=31)/\Blk wr w.heap.size 52 (pl P').toArray/\Blk wr (w.heap.size+1+1) 52 (pl zT).toArray/\Blk wr G 52 (pl Q).toArray/\wr.heap[GM]? =some (.map (zjJ G) 5)/\Bw w wr) (λi _=>len - (intOf i).toNat)
 case atStart=>exact⟨0,P,om,rfl,rfl,Kl,KP.out,KR.out,KG.out,HM.out,HB⟩
 case round=>
  clear KP KR HB KG HM Kl;obtain⟨j,P',hj,rfl,hP,Kl,hp,hr,hg,hm,hb⟩:=hrel;have HP:=kA hP;have KP:=kA hp;have KR:=kA hr;have KG:=kA hg;have HM:=kA hm;have HB:=kA hb;clear hP hp hr hg hm hb
  by_cases hlt:j<len
  ·obtain⟨b,off,k,rfl,hv,c0⟩:=zle (zar hJ HB) hlt;have zL:(0:Int)<=(j:Int):=om;have T5:(j:Int)<(len:Int):=om;have hk:kOk k=true:=all_eq_true.1 dJ k (mem_of_getElem? hv);have HK:=kA hk;have C5:Hid (zfU P Q (ks.take (j+1))=(zhN P'.1 k,(zcP k P' Q).2)):=kA (by rw[zpV hv,<-HP.out];rfl);have Ko:=kA (zd2 Kl hk);have HA:=kA (zpX Kl hk);clear hv HP;have D5:=zs3 HM hk;have hE:=zp3 hk;have HC:=kA (zyi hk G P' Q);clear hk;obtain⟨Fn,jD⟩:∃Fn,Fn=zex k:=⟨_,rfl⟩;obtain⟨cp,DN⟩:∃cp,cp=zb3 G k:=⟨_,rfl⟩;rw[<-jD,<-DN]at D5;rw[<-jD]at hE;rw[<-jD,<-DN]at HC;clear jD DN;unfold zbs at hE;go_wp2_with (refine wpList_load_mid rfl 52 (.tmp 3) rfl w.heap.size 0 rfl (pl P') _ (zac KP) underlying52 rfl (zaJ P') ?_);refine (HC _ KG).mono ?_;rintro e w3 ⟨rfl,b3⟩;clear D5 hE HC;obtain⟨P2,jE⟩:∃P2,P2=zcP k P' Q:=⟨_,rfl⟩;have hH:P2.1=P'.1:=by rw[jE];exact zmH k P' Q
   rw[<-jE]at C5;rw[<-jE];clear jE;replace KP:=kA (Blk.keep KP.out b3);replace KR:=kA (Blk.keep KR.out b3);replace KG:=kA (Blk.keep KG.out b3);replace HM:=kA (zs4 HM.out b3);replace HB:=kA (zad HB.out b3);clear b3 c0;rw[<-hH]at HA C5 Ko;clear hH Kl;have cY:=kA (zao (X:=pl P2) (Z:=pl P') rfl ▸ zaf (pl P2) KP.out (by simp[zcu]));go_wp2_with (refine wpList_store_mid rfl 52 (.tmp 3) (.tmp 22) rfl w.heap.size 0 (pl P2).toArray rfl rfl (zae KP.out (by simp[zcu])) (zbL _) (zc8 _) ?_);refine fin (λW=>Blk W w.heap.size 52 (pl P2).toArray/\Blk W (w.heap.size+1+1) 52 (pl zT).toArray/\Blk W G 52 (pl Q).toArray/\W.heap[GM]? =some (.map (zjJ G) 5)/\Bw w W) ⟨cY.out,zat _ KR.out om,zat _ KG.out om,zmN _ HM.out KP.out 0,zab _ HB.out (Nat.le_refl _)⟩ ?_;clear KP KR KG HM HB cY;rintro W ⟨kp,kr,kg,hm,hb⟩;have KP:=kA kp;have KR:=kA kr;have KG:=kA kg;have HM:=kA hm;have HB:=kA hb;clear kr kg hm hb;have TC:W.cell? ⟨w.heap.size,0,none⟩=some (.int .i64 P2.1):=kp.cell 0;have TD:W.frozen? ⟨w.heap.size,0,none⟩=false:=kp.frozen 0;clear kp;have jF:Hid (∀v,Blk (W.setCell ⟨w.heap.size,0,none⟩ (.int .i64 v)) w.heap.size 52 (pl (v,P2.2)).toArray):=kA (λv=>by have:=KP.out.set_ 0 (.int .i64 v);simpa[zyg] using this);go_wp2;refine wp_region_held_drew (S:=λ_=>True) oM trivial (λhHeld=> ?_);refine tk 0 hHeld ?_;refine tk 2 hHeld ?_;refine wpAnyH_ready (rs:=[1,3]) oM (by simp) ?_;refine AllReadyH.cons rfl (λK hK=> ?_) (AllReadyH.cons rfl (λK hK=> ?_) AllReadyH.nil)
   ·go_simp;refine hK.out _ _ trivial (λhHeld=> ?_);clear hK K;refine rd 3 (λK hK=> ?_);go_simp
    go_at_call 275
    refine (zdr HK _).mono ?_;rintro e w6 ⟨rfl,rfl⟩;go_wp2_with fail;refine hK.out _ _ trivial (λhHeld=> ?_);clear hK K;refine tk 4 hHeld ?_;refine tk 5 hHeld ?_;refine rd 6 (λK hK=> ?_);rw[HA.out];go_simp;refine hK.out _ _ trivial (λhHeld=> ?_);clear hK K;refine wpAnyH_done oM ?_ _;clear hHeld;refine fin (λW=>Blk W w.heap.size 52 (pl (zhN P2.1 k,P2.2)).toArray/\Blk W (w.heap.size+1+1) 52 (pl zT).toArray/\Blk W G 52 (pl Q).toArray/\W.heap[GM]? =some (.map (zjJ G) 5)/\Bw w W) ⟨Blk.drew (jF _),Blk.drew (KR.far (p:=⟨w.heap.size,0,none⟩) (by simp;omega) _),Blk.drew (KG.far (p:=⟨w.heap.size,0,none⟩) (by simp;omega) _),map_set HM KP 0 _,za5 (HB.setCell (p:=⟨w.heap.size,0,none⟩) (Nat.le_refl _) _)⟩ ?_;clear KP KR KG HM HB jF TC TD;rintro W2 ⟨kp,kr,kg,hm,hb⟩;have KP:=kA kp;have KR:=kA kr;have KG:=kA kg;have HM:=kA hm;have HB:=kA hb;clear kp kr kg hm hb;go_wp2;go_roundw
    case rel=>exact⟨j+1,(zhN P2.1 k,P2.2),om,by go_num,C5.symm,Ko.out,KP.out,KR.out,KG.out,HM.out,HB⟩
    case measure=>simp[intOf] <;> omega
   ·go_simp
    go_at_call 275
    refine (zdr HK _).mono ?_;rintro e w6 ⟨rfl,rfl⟩;go_wp2_with fail;refine hK.out _ _ trivial (λhHeld=> ?_);clear hK K;refine rd 1 (λK hK=> ?_);go_simp;refine hK.out _ _ trivial (λhHeld=> ?_);clear hK K;refine tk 4 hHeld ?_;refine tk 5 hHeld ?_;refine rd 6 (λK hK=> ?_);rw[HA.out];go_simp;refine hK.out _ _ trivial (λhHeld=> ?_);clear hK K;refine wpAnyH_done oM ?_ _;clear hHeld;refine fin (λW=>Blk W w.heap.size 52 (pl (zhN P2.1 k,P2.2)).toArray/\Blk W (w.heap.size+1+1) 52 (pl zT).toArray/\Blk W G 52 (pl Q).toArray/\W.heap[GM]? =some (.map (zjJ G) 5)/\Bw w W) ⟨Blk.drew (jF _),Blk.drew (KR.far (p:=⟨w.heap.size,0,none⟩) (by simp;omega) _),Blk.drew (KG.far (p:=⟨w.heap.size,0,none⟩) (by simp;omega) _),map_set HM KP 0 _,za5 (HB.setCell (p:=⟨w.heap.size,0,none⟩) (Nat.le_refl _) _)⟩ ?_;clear KP KR KG HM HB jF TC TD;rintro W2 ⟨kp,kr,kg,hm,hb⟩;have KP:=kA kp;have KR:=kA kr;have KG:=kA kg;have HM:=kA hm;have HB:=kA hb;clear kp kr kg hm hb;go_wp2;go_roundw
    case rel=>exact⟨j+1,(zhN P2.1 k,P2.2),om,by go_num,C5.symm,Ko.out,KP.out,KR.out,KG.out,HM.out,HB⟩
    case measure=>simp[intOf] <;> omega
  ·obtain rfl:j=len:=om;have et:ks.take j=ks:=take_of_length_le (by rw[HL.out];exact Nat.le_refl _);rw[et]at HP;clear et Kl;have cY:=kA (zao (X:=pl P') (Z:=pl zT) rfl ▸ zaf (pl P') KR.out (by simp[zcu]));go_wp2_with (first | refine wpList_store_mid rfl 52 (.tmp 6) (.tmp 30) rfl (w.heap.size+1+1) 0 (pl P').toArray rfl rfl (zae KR.out (by simp[zcu])) (zbL _) (zc8 _) ?_ | refine wpList_load_mid rfl 52 (.tmp 3) rfl w.heap.size 0 rfl (pl P') _ (zac KP.out) underlying52 rfl (zaJ P') ?_)
   refine fin (λW=>Blk W (w.heap.size+1+1) 52 (pl P').toArray/\Bw w W) ⟨cY,zab _ HB om⟩ ?_;rintro W ⟨kr,hb⟩;have hl:=run_loadVar_mid W (w.heap.size+1+1) 0 52 (pl P') _ (zac kr) underlying52 rfl (zaJ P');simp only[Act.put,setIfInBounds_toArray,set_cons_zero,set_cons_succ];exact bodyPost_ret (v:= .agg (pl P').toArray) (zaD results232 rfl hl) rfl ⟨by rw[HP.out],hb⟩
def prP(N V:Nat->Int)(j:Nat):Int:=zkW (N j) (V j)
def zpi(N V:Nat->Int)(j:Nat):Int:=zea (N j) (V j)
def prE(N V:Nat->Int):Int:=zc5 (zpi N V 0) (zpi N V 1) (zpi N V 2)
def prV(N V:Nat->Int)(j:Nat):Int:=zph (prE N V) (prP N V j)
theorem zfI(N V:Nat->Int)(w:World):
  Calls prog 290 #[.agg #[.int .i64 (N 0),.int .i64 (N 1),.int .i64 (N 2)],.agg #[.int .i64 (V 0),.int .i64 (V 1),.int .i64 (V 2)]] w λe w'=>e= .returned (.tuple #[.agg #[.int .i64 (prV N V 0),.int .i64 (prV N V 1),.int .i64 (prV N V 2)],.int .i64 (prE N V)])/\Bw w w':=by
 go_enter func290,ntmps290;go_wp2
 go_loopw [10] (λi wr=>∃k:Nat,k<=3/\i= .int .i64 k/\(∀j,j<k->zpi N V j=0)/\wr.rowIs (w.heap.size+3) 48 3 (zbV (prP N V) k)/\Blk wr w.heap.size 48 #[.int .i64 (N 0),.int .i64 (N 1),.int .i64 (N 2)]/\Blk wr (w.heap.size+1) 48 #[.int .i64 (V 0),.int .i64 (V 1),.int .i64 (V 2)]/\Blk wr (w.heap.size+2) 48 #[.int .i64 0,.int .i64 0,.int .i64 0]/\Bw w wr) (λi _=>3 - (intOf i).toNat)
 case atStart=>exact⟨0,om,rfl,λj hj=>om,zf2 (zhI _ _ _) (by simp),(((Blk.new w _ _).alloc _).alloc _).alloc _,(zbe (((Blk.new (w.alloc _) _ _).alloc _).alloc _) (by simp)),(zbe ((Blk.new ((w.alloc _).alloc _) _ _).alloc _) (by simp)),zag (zag (zag (zaa _ _) _) _) _⟩
 case round=>
  obtain⟨k,hk,rfl,hz,Hd,SD,XT,kZ,hb⟩:=hrel;have HZ:=kA hz;have hJ:=kA Hd;have HN:=kA SD;have HV:=kA XT;have kw:=kA kZ;have HB:=kA hb;clear hz Hd SD XT kZ hb
  by_cases hlt:k<3
  ·have cx:=Blk.atv HN hlt;have cy:=Blk.atv HV hlt;obtain⟨x,hx⟩:∃x,x=N k:=⟨_,rfl⟩;obtain⟨y,hy⟩:∃y,y=V k:=⟨_,rfl⟩;have HD:Hid (prP N V k=zkW x y/\zpi N V k=zea x y):=kA (by unfold prP zpi;rw[hx,hy];exact⟨rfl,rfl⟩);rw[<-hx]at cx;rw[<-hy]at cy;clear hx hy;have hk0:(0:Int)<=(k:Int):=om;have cQ:(k:Int)<3:=om;go_wp2
   go_region_held3 (λw'=>w'.cell? ⟨w.heap.size,k,none⟩=some (.int .i64 x)/\w'.cell? ⟨w.heap.size+1,k,none⟩=some (.int .i64 y)) (first | exact⟨zd0 b2 cx,zd0 b2 cy⟩ | go_keep)
    (first | (go_at_call 313;refine (zpr _ _ _).mono ?_;rintro e w2 ⟨rfl,b2⟩))
   have B2:=kA (zaH b2);clear b2 cx cy;have Hl:=kA (hJ.of_block (B2.block _ hJ.lt));have Yz:=kA (Blk.keep HN B2);have DL:=kA (Blk.keep HV B2);have kv:=kA (Blk.keep kw B2);have He:=kA (zad HB B2);clear B2 hJ HN HV kw HB
   by_cases he:zea x y=0
   ·have KC:=kA he;have Cv:(zea x y != 0)=false:=by rw[he];rfl
    clear he;have rc:=Hl.cell (i:=k) om;have rf:=Hl.frozen k;unfold zbV at rc;simp only[Nat.lt_irrefl,if_false]at rc;go_wp2;go_roundw
    case rel=>exact⟨k+1,om,by go_num,zeA HZ (by rw[HD.2];exact KC),(Hl.set k _).congr (λi _=>by rw[<-HD.1];exact zdF _ k i),Yz.far (by simp;omega) _,DL.far (by simp) _,kv.far (by simp) _,He.setCell (by simp;omega) _⟩
    case measure=>simp[intOf];omega
   ·have KC:=kA he;have Cv:(zea x y != 0)=true:=by simpa using he
    clear he;obtain⟨z0,z1,z2,g0,g1,g2⟩:=zpy kv;go_wp2;have e1:prE N V=zea x y:=by
     rw[<-HD.2];exact zgm (e:=zpi N V) hlt HZ (by rw[HD.2];exact KC)
    have e2:∀j,prV N V j=0:=λj=>by unfold prV zph;rw[e1,if_neg KC]
    exact bodyPost_ret (v:= .tuple #[.agg #[.int .i64 0,.int .i64 0,.int .i64 0],.int .i64 (zea x y)]) (by simp[results,results290,go_sem,z0,z1,z2]) rfl ⟨by rw[e1,e2,e2,e2],zk5 He om⟩
  ·obtain rfl:k=3:=om;have e1:prE N V=0:=zee (e:=zpi N V) HZ;have HE:=kA e1;clear e1;have o0:wr.cell? ⟨w.heap.size+3,0,none⟩=some (.int .i64 (prP N V 0)):=hJ.cell (i:=0) om;have o1:wr.cell? ⟨w.heap.size+3,1,none⟩=some (.int .i64 (prP N V 1)):=hJ.cell (i:=1) om;have o2:wr.cell? ⟨w.heap.size+3,2,none⟩=some (.int .i64 (prP N V 2)):=hJ.cell (i:=2) om;obtain⟨z0,z1,z2,g0,g1,g2⟩:=zpy kw;go_wp2;have e2:∀j,prV N V j=prP N V j:=λj=>by unfold prV;rw[HE.out];rfl
   exact bodyPost_ret (v:= .tuple #[.agg #[.int .i64 (prP N V 0),.int .i64 (prP N V 1),.int .i64 (prP N V 2)],.int .i64 0]) (by simp[results,results290,go_sem,z0,z1,z2]) rfl ⟨by rw[HE.out,e2,e2,e2],zk5 HB om⟩
theorem zjK(x y z t:Int)(w:World):
  Calls prog 291 #[.agg #[.int .i64 x,.int .i64 y,.int .i64 z],.int .i64 t] w λe w'=>e= .returned (.tuple #[.int .i64 (zik [x,y,z,t]),.int .i64 (zfh [x,y,z,t])])/\Bw w w':=by
 go_enter func291,ntmps291;go_wp2_with fail;refine (zpw _ _ _ [x,y,z,t] _ (row4 (P:=λj=>[x,y,z,t].getD j 0) (zbe (Blk.new _ _ _) (by simp)))).mono ?_;rintro e w1 ⟨rfl,b1⟩;go_wp2;go_ret2;exact⟨rfl,zad (zag (zaa _ _) _) b1⟩
def spM(M:Nat->Int)(r k:Nat):Int:=M (4*r+k)
theorem zp5(M:Nat->Int)(r:Nat)(w:World)(hr:r<3):
  Calls prog 264 #[.agg #[.int .i64 (M 0),.int .i64 (M 1),.int .i64 (M 2),.int .i64 (M 3),.int .i64 (M 4),.int .i64 (M 5),.int .i64 (M 6),.int .i64 (M 7),.int .i64 (M 8),.int .i64 (M 9),.int .i64 (M 10),.int .i64 (M 11)],.int .i64 r] w λe w'=>e= .returned (.agg #[.int .i64 (spM M r 0),.int .i64 (spM M r 1),.int .i64 (spM M r 2),.int .i64 (spM M r 3)])/\Bw w w':=by
 obtain⟨n0,C4⟩:∃n,n=4*r:=⟨_,rfl⟩;obtain⟨n1,dh⟩:∃n,n=4*r+1:=⟨_,rfl⟩;obtain⟨n2,SF⟩:∃n,n=4*r+2:=⟨_,rfl⟩;obtain⟨n3,ZQ⟩:∃n,n=4*r+3:=⟨_,rfl⟩;have SG:IntKind.i64.wrap (4*(r:Int))=(n0:Int):=by rw[show 4*(r:Int)=(n0:Int) by omega];exact IntWalk.i64_in _ om
 have Cz:IntKind.i64.wrap ((n0:Int)+1)=(n1:Int):=by rw[show (n0:Int)+1=(n1:Int) by omega];exact IntWalk.i64_in _ om
 have xv:IntKind.i64.wrap ((n0:Int)+2)=(n2:Int):=by rw[show (n0:Int)+2=(n2:Int) by omega];exact IntWalk.i64_in _ om
 have T7:IntKind.i64.wrap ((n0:Int)+3)=(n3:Int):=by rw[show (n0:Int)+3=(n3:Int) by omega];exact IntWalk.i64_in _ om
 have K:=λo=>(Blk.new w 46 #[.int .i64 (M 0),.int .i64 (M 1),.int .i64 (M 2),.int .i64 (M 3),.int .i64 (M 4),.int .i64 (M 5),.int .i64 (M 6),.int .i64 (M 7),.int .i64 (M 8),.int .i64 (M 9),.int .i64 (M 10),.int .i64 (M 11)]).alloc o;have c0:=λo=>Blk.at12 (K o) (k:=n0) om;have c1:=λo=>Blk.at12 (K o) (k:=n1) om;have c2:=λo=>Blk.at12 (K o) (k:=n2) om;have c3:=λo=>Blk.at12 (K o) (k:=n3) om;obtain⟨x,hx⟩:∃x,x=M n0:=⟨_,rfl⟩;obtain⟨y,hy⟩:∃y,y=M n1:=⟨_,rfl⟩;obtain⟨z,hz⟩:∃z,z=M n2:=⟨_,rfl⟩;obtain⟨l,hl⟩:∃l,l=M n3:=⟨_,rfl⟩;have HD:Hid (spM M r 0=x/\spM M r 1=y/\spM M r 2=z/\spM M r 3=l):=kA (by unfold spM;rw[hx,hy,hz,hl,C4,dh,SF,ZQ];exact⟨rfl,rfl,rfl,rfl⟩);rw[<-hx]at c0;rw[<-hy]at c1;rw[<-hz]at c2;rw[<-hl]at c3;have me:(0:Int)<=(n0:Int):=om;have mf:(n0:Int)<12:=om;have JI:(0:Int)<=(n1:Int):=om;have jv:(n1:Int)<12:=om;have mh:(0:Int)<=(n2:Int):=om;have mi:(n2:Int)<12:=om;have mj:(0:Int)<=(n3:Int):=om;have ml:(n3:Int)<12:=om;have X4:(0:Int)<=(r:Int):=om;have HC:=kA (λo=>And.intro (c0 o) (And.intro (c1 o) (And.intro (c2 o) (c3 o))));clear hx hy hz hl C4 dh SF ZQ K c0 c1 c2 c3;go_enter func264,ntmps264;go_wp2
 go_region_held3 (λw'=>w'.cell? ⟨w.heap.size,n0,none⟩=some (.int .i64 x)/\w'.cell? ⟨w.heap.size,n1,none⟩=some (.int .i64 y)/\w'.cell? ⟨w.heap.size,n2,none⟩=some (.int .i64 z)/\w'.cell? ⟨w.heap.size,n3,none⟩=some (.int .i64 l)) (first | exact HC _)
  (first | fail)
 go_wp2;exact bodyPost_ret (v:= .agg #[.int .i64 x,.int .i64 y,.int .i64 z,.int .i64 l]) (by simp[results,results264,go_sem]) rfl ⟨by rw[HD.1,HD.2.1,HD.2.2.1,HD.2.2.2],za5 (zag (zaa _ _) _)⟩
end Go.Proofs.YtlibdcmcbinfnaaGreat
