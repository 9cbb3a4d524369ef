/- Lemmas. -/
import Derived.Test.YtlibdcmcbinfnaaGreatMA03
set_option maxHeartbeats 100000000
set_option maxRecDepth 1000000
namespace Go.Proofs.YtlibdcmcbinfnaaGreat
open _root_.Go.Proofs.Tryz List Nat
open Go.RowKit
theorem zyk(n:Nat)(x0 x1 x2 y0 y1 y2:Int)(w:World):(Op.equalIn (n+1+1) 48 (.agg #[.int .i64 x0,.int .i64 x1,.int .i64 x2]) (.agg #[.int .i64 y0,.int .i64 y1,.int .i64 y2])).run prog w= .ok ((x0==y0) && (x1==y1) && (x2==y2)) w:=by
 have u3:=underlying44;have a3:=isAgg44;have z3:=sizeOf44;rw[Op.equalIn];simp only[Sem.run_bind,run_underlying underlying48,Result.andThen_ok];simp only[Std.Legacy.Range.forIn_eq_forIn_range',Std.Legacy.Range.size,Nat.sub_zero,Nat.add_sub_cancel,Nat.div_one,range'_succ,range'_zero,forIn_cons,forIn_nil];go_simp
 by_cases h0:x0=y0
 ·subst h0
  by_cases h1:x1=y1
  ·subst h1
   by_cases h2:x2=y2
   ·subst h2;simp
   ·simp[h2]
  ·simp[h1]
 ·simp[h0]
theorem zyl(n:Nat)(x0 x1 x2 x3 x4 x5 x6 x7 x8 x9 cj DX y0 y1 y2 y3 y4 y5 y6 y7 y8 y9 vS sw:Int)(w:World):(Op.equalIn (n+1+1) 46 (.agg #[.int .i64 x0,.int .i64 x1,.int .i64 x2,.int .i64 x3,.int .i64 x4,.int .i64 x5,.int .i64 x6,.int .i64 x7,.int .i64 x8,.int .i64 x9,.int .i64 cj,.int .i64 DX]) (.agg #[.int .i64 y0,.int .i64 y1,.int .i64 y2,.int .i64 y3,.int .i64 y4,.int .i64 y5,.int .i64 y6,.int .i64 y7,.int .i64 y8,.int .i64 y9,.int .i64 vS,.int .i64 sw])).run prog w= .ok ((x0==y0) && (x1==y1) && (x2==y2) && (x3==y3) && (x4==y4) && (x5==y5) && (x6==y6) && (x7==y7) && (x8==y8) && (x9==y9) && (cj==vS) && (DX==sw)) w:=by
 have u3:=underlying44;have a3:=isAgg44;have z3:=sizeOf44;rw[Op.equalIn];simp only[Sem.run_bind,run_underlying underlying46,Result.andThen_ok];simp only[Std.Legacy.Range.forIn_eq_forIn_range',Std.Legacy.Range.size,Nat.sub_zero,Nat.add_sub_cancel,Nat.div_one,range'_succ,range'_zero,forIn_cons,forIn_nil];go_simp
 by_cases h0:x0=y0
 ·subst h0
  by_cases h1:x1=y1
  ·subst h1
   by_cases h2:x2=y2
   ·subst h2
    by_cases h3:x3=y3
    ·subst h3
     by_cases h4:x4=y4
     ·subst h4
      by_cases h5:x5=y5
      ·subst h5
       by_cases h6:x6=y6
       ·subst h6
        by_cases h7:x7=y7
        ·subst h7
         by_cases h8:x8=y8
         ·subst h8
          by_cases h9:x9=y9
          ·subst h9
           by_cases ZC:cj=vS
           ·subst ZC
            by_cases QX:DX=sw
            ·subst QX;simp
            ·simp[QX]
           ·simp[ZC]
          ·simp[h9]
         ·simp[h8]
        ·simp[h7]
       ·simp[h6]
      ·simp[h5]
     ·simp[h4]
    ·simp[h3]
   ·simp[h2]
  ·simp[h1]
 ·simp[h0]
theorem zym(n:Nat)(x0 x1 x2 x3 x4 x5 y0 y1 y2 y3 y4 y5:Int)(w:World):(Op.equalIn (n+1+1+1) 50 (.agg #[.int .i64 x0,.int .i64 x1,.int .i64 x2,.int .i64 x3,.int .i64 x4,.int .i64 x5]) (.agg #[.int .i64 y0,.int .i64 y1,.int .i64 y2,.int .i64 y3,.int .i64 y4,.int .i64 y5])).run prog w= .ok (((x0==y0) && (x1==y1) && (x2==y2)) && ((x3==y3) && (x4==y4) && (x5==y5))) w:=by
 have hv:=zyk;have a3:=isAgg48;have z3:=sizeOf48;rw[Op.equalIn];simp only[Sem.run_bind,run_underlying underlying50,Result.andThen_ok];go_simp
 by_cases h0:x0=y0
 ·subst h0
  by_cases h1:x1=y1
  ·subst h1
   by_cases h2:x2=y2
   ·subst h2
    by_cases h3:x3=y3
    ·subst h3
     by_cases h4:x4=y4
     ·subst h4
      by_cases h5:x5=y5
      ·subst h5;simp
      ·simp[h5]
     ·simp[h4]
    ·simp[h3]
   ·simp[h2]
  ·simp[h1]
 ·simp[h0]
theorem zoi(h:Int)(M:Nat->Int)(m:Int)(B:Nat->Int)(p a:Int)(c:Bool)(l:Int)(h2:Int)(N:Nat->Int)(m2:Int)(B2:Nat->Int)(p2 a2:Int)(c2:Bool)(l2:Int)(eM eB:Bool)(w:World)
  (hM:∀n w,(Op.equalIn (n+1+1) 46 (.agg #[.int .i64 (M 0),.int .i64 (M 1),.int .i64 (M 2),.int .i64 (M 3),.int .i64 (M 4),.int .i64 (M 5),.int .i64 (M 6),.int .i64 (M 7),.int .i64 (M 8),.int .i64 (M 9),.int .i64 (M 10),.int .i64 (M 11)]) (.agg #[.int .i64 (N 0),.int .i64 (N 1),.int .i64 (N 2),.int .i64 (N 3),.int .i64 (N 4),.int .i64 (N 5),.int .i64 (N 6),.int .i64 (N 7),.int .i64 (N 8),.int .i64 (N 9),.int .i64 (N 10),.int .i64 (N 11)])).run prog w= .ok eM w)(hB:∀n w,(Op.equalIn (n+1+1+1) 50 (.agg #[.int .i64 (B 0),.int .i64 (B 1),.int .i64 (B 2),.int .i64 (B 3),.int .i64 (B 4),.int .i64 (B 5)]) (.agg #[.int .i64 (B2 0),.int .i64 (B2 1),.int .i64 (B2 2),.int .i64 (B2 3),.int .i64 (B2 4),.int .i64 (B2 5)])).run prog w= .ok eB w):
  (Op.equalIn 10000 52 (.agg (PL h M m B p a c l).toArray) (.agg (PL h2 N m2 B2 p2 a2 c2 l2).toArray)).run prog w= .ok ((h==h2) && eM && (m==m2) && eB && (p==p2) && (a==a2) && (c==c2) && (l==l2)) w:=by
 have a1:=isAgg46;have z1:=sizeOf46;have sA:=isAgg50;have z2:=sizeOf50;have u3:=underlying3;have a3:=isAgg3;have z3:=sizeOf3;have u4:=underlying43;have a4:=isAgg43;have z4:=sizeOf43;have u5:=underlying4;have a5:=isAgg4;have z5:=sizeOf4;unfold PL;rw[show (10000:Nat)=9996+1+1+1+1 from rfl,Op.equalIn];simp only[Sem.run_bind,run_underlying underlying52,Result.andThen_ok];go_simp
 by_cases e0:h=h2
 ·cases eM
  ·simp
  ·by_cases e1:m=m2
   ·cases eB
    ·simp
    ·by_cases e2:p=p2
     ·by_cases e3:a=a2
      ·by_cases e4:c=c2
       ·by_cases e5:l=l2
        ·simp[e0,e1,e2,e3,e4,e5]
        ·simp[e5]
       ·simp[e4]
      ·simp[e3]
     ·simp[e2]
   ·simp[e1]
 ·simp[e0]
def zwc(M N:Nat->Int):Bool:=(M 0==N 0) && (M 1==N 1) && (M 2==N 2) && (M 3==N 3) && (M 4==N 4) && (M 5==N 5) && (M 6==N 6) && (M 7==N 7) && (M 8==N 8) && (M 9==N 9) && (M 10==N 10) && (M 11==N 11)
def eq6(B C:Nat->Int):Bool:=((B 0==C 0) && (B 1==C 1) && (B 2==C 2)) && ((B 3==C 3) && (B 4==C 4) && (B 5==C 5))
def eqP(h:Int)(M:Nat->Int)(m:Int)(B:Nat->Int)(p a:Int)(c:Bool)(l:Int)(h2:Int)(N:Nat->Int)(m2:Int)(B2:Nat->Int)(p2 a2:Int)(c2:Bool)(l2:Int):Bool:=(h==h2) && zwc M N && (m==m2) && eq6 B B2 && (p==p2) && (a==a2) && (c==c2) && (l==l2)
theorem zwd(h:Int)(M:Nat->Int)(m:Int)(B:Nat->Int)(p a:Int)(c:Bool)(l:Int)(h2:Int)(N:Nat->Int)(m2:Int)(B2:Nat->Int)(p2 a2:Int)(c2:Bool)(l2:Int)(w:World):
  (Op.equalIn 10000 52 (.agg (PL h M m B p a c l).toArray) (.agg (PL h2 N m2 B2 p2 a2 c2 l2).toArray)).run prog w= .ok (eqP h M m B p a c l h2 N m2 B2 p2 a2 c2 l2) w:=
 zoi h M m B p a c l h2 N m2 B2 p2 a2 c2 l2 (zwc M N) (eq6 B B2) w (λn w=>zyl n _ _ _ _ _ _ _ _ _ _ _ _ _ _ _ _ _ _ _ _ _ _ _ _ w) (λn w=>zym n _ _ _ _ _ _ _ _ _ _ _ _ w)
theorem zgx(M:Nat->Int):zwc M M=true:=by unfold zwc;simp
theorem zis(B:Nat->Int):eq6 B B=true:=by unfold eq6;simp
def zI:Nat->Int:=λ_=>0
def zkB(M:Nat->Int)(m:Int)(B:Nat->Int)(p a:Int)(c:Bool)(l:Int)(k:Nat):Bool:=
 if k=0 then zwc zI M else if k=1 then (0==m) && eq6 zI B else if k=2 then (0==p) && (0==a) && (false==c) else if k=3 then (0==l) else true
def zgy(h:Int)(M:Nat->Int)(m:Int)(B:Nat->Int)(p a:Int)(c:Bool)(l:Int)(k:Nat):Bool:=zaW h k || zkB M m B p a c l k
def zfJ(h:Int)(M:Nat->Int)(m:Int)(B:Nat->Int)(p a:Int)(c:Bool)(l:Int):Bool:=zgy h M m B p a c l 0 && zgy h M m B p a c l 1 && zgy h M m B p a c l 2 && zgy h M m B p a c l 3 && zgy h M m B p a c l 4
def zhA(M:Nat->Int)(m:Int)(B:Nat->Int)(p a:Int)(l:Int):Bool:=okM M && inB m 255 && zcm B && inB p 63 && inB a 255 && inB l 255
def zeF(h:Int)(M:Nat->Int)(m:Int)(B:Nat->Int)(p a:Int)(c:Bool)(l:Int):Bool:=decide (0<=h) && decide (h<=31) && zfJ h M m B p a c l && zhA M m B p a l
abbrev PT:=Int × (Nat->Int) × Int × (Nat->Int) × Int × Int × Bool × Int
def pl(P:PT):List Value:=PL P.1 P.2.1 P.2.2.1 P.2.2.2.1 P.2.2.2.2.1 P.2.2.2.2.2.1 P.2.2.2.2.2.2.1 P.2.2.2.2.2.2.2
def zT:PT:=(0,zI,0,zI,0,0,false,0)
def zay(P:PT):Bool:=zeF P.1 P.2.1 P.2.2.1 P.2.2.2.1 P.2.2.2.2.1 P.2.2.2.2.2.1 P.2.2.2.2.2.2.1 P.2.2.2.2.2.2.2
def zcP(k:Int)(P Q:PT):PT:=
 if k=0 then (P.1,Q.2.1,P.2.2) else if k=1 then (P.1,P.2.1,Q.2.2.1,Q.2.2.2.1,P.2.2.2.2) else if k=2 then (P.1,P.2.1,P.2.2.1,P.2.2.2.1,Q.2.2.2.2.1,Q.2.2.2.2.2.1,Q.2.2.2.2.2.2.1,P.2.2.2.2.2.2.2) else if k=3 then (P.1,P.2.1,P.2.2.1,P.2.2.2.1,P.2.2.2.2.1,P.2.2.2.2.2.1,P.2.2.2.2.2.2.1,Q.2.2.2.2.2.2.2) else P
theorem zwe(k:Int)(P Q:PT):zzO k (pl P) (pl Q)=pl (zcP k P Q):=by
 by_cases h0:k=0
 ·subst h0;rfl
 ·by_cases h1:k=1
  ·subst h1;rfl
  ·by_cases h2:k=2
   ·subst h2;rfl
   ·by_cases h3:k=3
    ·subst h3;rfl
    ·unfold zzO zcP;rw[if_neg h0,if_neg h1,if_neg h2,if_neg h3,if_neg h0,if_neg h1,if_neg h2,if_neg h3]
theorem zmM(k:Int)(P Q:PT):(zcP k P Q).1=P.1:=by
 unfold zcP
 by_cases h0:k=0
 ·rw[if_pos h0]
 ·rw[if_neg h0]
  by_cases h1:k=1
  ·rw[if_pos h1]
  ·rw[if_neg h1]
   by_cases h2:k=2
   ·rw[if_pos h2]
   ·rw[if_neg h2]
    by_cases h3:k=3
    ·rw[if_pos h3]
    ·rw[if_neg h3]
theorem zcv(P:PT):(pl P).length=24:=rfl
theorem zaJ(P:PT):(prog.info? 52).map (·.size)=some (pl P).length:=zb9 _ _ _ _ _ _ _ _
theorem zbL(P:PT):(prog.info? 52).map (·.size)=some (pl P).toArray.size:=zb9 _ _ _ _ _ _ _ _
theorem zc8(P:PT):(pl P).toArray.all (·.oneCell')=true:=zfI _ _ _ _ _ _ _ _
theorem zyn(P:PT)(s:Int):(pl P).set 0 (.int .i64 s)=pl (s,P.2):=rfl
def zs0(Q P:PT)(k:Int):PT:=(zhS P.1 k,(zcP k P Q).2)
def zcw(s:Int)(ks:List Int):Bool:=ks.all (zcl s)
def zfY(P Q:PT)(ks:List Int):PT:=ks.foldl (zs0 Q) P
def zfK(P Q:PT)(ks:List Int):Bool:=zay P && zay Q && zcw Q.1 ks
def zfZ(P Q:PT)(ks:List Int):Int:=if zfK P Q ks then 0 else 1
def zeG(P Q:PT)(ks:List Int):PT:=if zfK P Q ks then zfY P Q ks else zT
variable{P Q:PT}{ks:List Int}{k s:Int}
theorem zll(h:zfK P Q ks=false):zfZ P Q ks=1/\zeG P Q ks=zT:=by unfold zfZ zeG;rw[h];exact⟨rfl,rfl⟩
theorem zs1(h:zfK P Q ks=true):zfZ P Q ks=0/\zeG P Q ks=zfY P Q ks:=by unfold zfZ zeG;rw[if_pos h,if_pos h];exact⟨rfl,rfl⟩
theorem zpZ{j:Nat}(h:ks[j]? =some k):zfY P Q (ks.take (j+1))=zs0 Q (zfY P Q (ks.take j)) k:=by
 unfold zfY;rw[take_add_one,h,foldl_append];rfl
theorem zit(h:zcl s k=true):kOk k=true:=by
 unfold zcl at h;unfold kOk;rw[Bool.and_eq_true]at h;exact h.1
theorem zcH(h:zay P=true):0<=P.1/\P.1<=31:=by
 unfold zay zeF at h;simp only[Bool.and_eq_true,decide_eq_true_eq]at h;exact h.1.1
def zjw(s k:Int):Int:=if zcl s k then s - 2 ^ k.toNat else s
theorem zc9(hs:0<=s/\s<=31):0<=zjw s k/\zjw s k<=31:=by
 unfold zjw
 by_cases c:zcl s k=true
 ·rw[if_pos c];rcases zbf (zit c) with rfl | rfl | rfl | rfl | rfl
  ·have:s % 2=1:=by simpa[zcl,zaW] using c
   show 0<=s - 1/\s - 1<=31;omega
  ·have:s / 2 % 2=1:=by simpa[zcl,zaW] using c
   show 0<=s - 2/\s - 2<=31;omega
  ·have:s / 4 % 2=1:=by simpa[zcl,zaW] using c
   show 0<=s - 4/\s - 4<=31;omega
  ·have:s / 8 % 2=1:=by simpa[zcl,zaW] using c
   show 0<=s - 8/\s - 8<=31;omega
  ·have:s / 16 % 2=1:=by simpa[zcl,zaW] using c
   show 0<=s - 16/\s - 16<=31;omega
 ·rw[if_neg c];exact hs
def zhB(P:PT)(k:Int):PT:=zcP k (zjw P.1 k,P.2) zT
def zjL(P:PT)(ks:List Int):PT:=ks.foldl zhB P
def zeH(P:PT)(ks:List Int):Bool:=zay P && zeb ks
def zek(P:PT)(ks:List Int):Int:=if zeH P ks then 0 else 1
def zf0(P:PT)(ks:List Int):PT:=if zeH P ks then zjL P ks else zT
end Go.Proofs.YtlibdcmcbinfnaaGreat
