/- Lemmas. -/
import Derived.Test.YtlibdcmcbinfnaaGreatRows
import Derived.WalkKit
import Derived.WalkSpells
import Derived.WalkLawsBesides
import Derived.BigQuiet
import Derived.Lib.Hide
import Derived.Deep.RegionHeld3
import Derived.Deep.MidRow
import Derived.Below
import Derived.OpenShut
import Derived.LoopN
import Derived.Laws.OwnMore
import Derived.Deep.Draws
import Derived.Laws.Rows
import Derived.Deep.OwnRows
import Derived.Maps.AppendAt
set_option maxHeartbeats 100000000
set_option maxRecDepth 1000000
set_option linter.unusedVariables false
namespace Go.Proofs.YtlibdcmcbinfnaaGreat
open _root_.Go.Proofs.Tryz List Nat
open Go.RowKit
abbrev Bw(w w':World):Prop:=Below w.heap.size w w'
variable{p:Prop}{a b x y z x0 x1 x2 y0 y1 y2 b0 b1 b2:Int}{ops:Array Oper}{Q:Exit->Go.Act->World->Prop}{S:World->Prop}{oi:Oper}{v:Value}{l:Array Bool}{a':Go.Act}{w w':World}{zs:List Int}{len g k cap n:Nat}{t:TypeId}{cs:Array Value}{bt:Int->Int->Bool}{e:Nat->Int}
theorem kA(h:p):Hid p:=Lib.hid h
theorem om(h:p:=by omega):p:=h
theorem oM(h:p:=by kernel_rfl):p:=h
def okB(x:Int):Bool:=decide (-2147483648<=x/\x<=2147483647)
def zaL(zs:List Int):Bool:=zs.all okB
def Row(w:World)(a:Option Addr)(len:Nat)(zs:List Int):Prop:=
 zs.length=len/\len<=9223372036854775807/\(len=0∨∃b off,a=some ⟨b,off,none⟩/\∀i,i<len->w.cell? ⟨b,off+i,none⟩=some (.int .i64 (zs.getD i 0)))
theorem zfX(zs:List Int)(k:Nat)(h:k<zs.length):zaL (zs.take (k+1))=(zaL (zs.take k) && okB (zs.getD k 0)):=by
 unfold zaL;rw[take_add_one,all_append];simp[getD,getElem?_eq_getElem h]
theorem zn3(zs:List Int)(k:Nat)(h:k<zs.length)(hb:okB (zs.getD k 0)=false):zaL zs=false:=by
 unfold zaL;rw[all_eq_false];refine⟨zs.getD k 0,?_,by rw[hb];decide⟩;simp only[getD,getElem?_eq_getElem h,Option.getD_some];exact getElem_mem h
theorem zdr{a b:Bool}(h:a=b):Ending.returned (.bool a)= .returned (.bool b):=by rw[h]
theorem zvW{k:IntKind}(h:a=b):Ending.returned (.int k a)= .returned (.int k b):=by rw[h]
theorem zya(h:x< -2147483648):okB x=false:=by unfold okB;rw[decide_eq_false_iff_not];omega
theorem zyb(h:2147483647<x):okB x=false:=by unfold okB;rw[decide_eq_false_iff_not];omega
theorem zk5(h: -2147483648<=x)(h2:x<=2147483647):okB x=true:=by unfold okB;rw[decide_eq_true_iff];omega
theorem zfj:okB x=true↔(-2147483648<=x/\x<=2147483647):=by unfold okB;simp
theorem zgn(a:Option Addr)(cap:Nat)(w:World):
  Calls prog 249 #[.slice a 0 cap] w λe w'=>e= .returned (.bool true)/\w=w':=by
 go_enter func249,ntmps249;go_wp2
 go_loop [7] (λi=>i= .int .i64 0) (λ_=>0)
 case atStart=>rfl
 case round=>
  obtain rfl:=hrel;go_wp2;go_ret;exact⟨rfl,rfl⟩
theorem zpr(b off len cap:Nat)(zs:List Int)(w:World)(hl:zs.length=len)(Hy:len<=9223372036854775807)(hc:∀j,j<len->w.cell? ⟨b,off+j,none⟩=some (.int .i64 (zs.getD j 0))):
  Calls prog 249 #[.slice (some ⟨b,off,none⟩) len cap] w λe w'=>e= .returned (.bool (zaL zs))/\w=w':=by
 have HL:=kA hl;have HC:=kA hc;clear hl hc;go_enter func249,ntmps249;go_wp2
 go_loop [7] (λi=>∃k:Nat,k<=len/\i= .int .i64 k/\zaL (zs.take k)=true) (λi=>len - (intOf i).toNat)
 case atStart=>exact⟨0,zero_le _,rfl,rfl⟩
 case round=>
  obtain⟨k,hk,rfl,hr⟩:=hrel;have HR:=kA hr;clear hr
  by_cases hlt:k<len
  ·have KV:k<zs.length:=by rw[HL.out];exact hlt
   obtain⟨x,hx⟩:∃x,x=zs.getD k 0:=⟨_,rfl⟩;have hcell:=HC.out k hlt;have H1:=kA (zfX zs k KV);have H2:=kA (zn3 zs k KV);rw[<-hx]at hcell;rw[<-hx]at H1 H2;clear hx KV
   by_cases N8:x< -2147483648
   ·go_wp2;go_ret;exact⟨zdr (H2 (zya N8)).symm,rfl⟩
   ·by_cases hhi:2147483647<x
    ·go_wp2;go_ret;exact⟨zdr (H2 (zyb hhi)).symm,rfl⟩
    ·go_wp2
     go_round
     case rel=>exact⟨k+1,om,by go_num,by rw[H1.out,HR.out,zk5 om om];rfl⟩
     case measure=>simp[intOf];omega
  ·go_wp2;go_ret;have e:zs.take k=zs:=take_of_length_le (by rw[HL.out];omega);exact⟨zdr (by rw[<-HR.out,e]),rfl⟩
theorem zbF(a:Option Addr)(len cap:Nat)(zs:List Int)(w:World)(h:Row w a len zs):
  Calls prog 249 #[.slice a len cap] w λe w'=>e= .returned (.bool (zaL zs))/\w=w':=by
 obtain⟨hl,hm,h0 | ⟨b,off,rfl,hc⟩⟩:=h
 ·subst h0;obtain rfl:=eq_nil_of_length_eq_zero hl;exact zgn a cap w
 ·exact zpr b off len cap zs w hl hm hc
theorem tk{P:Program}{md:Region.Mode}(i:Nat){oi:Oper}{v:Value}{fuel:Nat}{l:Array Bool}{a a':Go.Act}{w:World}(hS:S w)(h:wpAnyH P md ops Q S fuel (l.setIfInBounds i true) a' w)
  (hi:ops[i]? =some oi:=by rfl)(hs:Region.noSelect ops=true:=by kernel_rfl)(hf:Region.free md ops l i=true:=by kernel_rfl)(hr:(Region.ready md ops l).contains i=true:=by kernel_rfl)(hw:Region.wanted oi (yielded ops a.tmps)=true:=by rfl)
  (hy:∀w,S w->(execOp a.eval oi).run P w= .ok (.value v) w:=by (intro w Dc;(try dsimp only at Dc);go_split_ands;go_simp;with_reducible rfl))
  (ha:a.put oi.dst v=a':=by (simp only[Go.Act.put,getElem_toArray,getElem_cons_zero,getElem_cons_succ,setIfInBounds_toArray,set_cons_zero,set_cons_succ];try rfl))
  (hQ:∀c a w,Q (.panic c) (a.put oi.dst v) w->Q (.panic c) a w:=by exact λ_ _ _ h=>h):wpAnyH P md ops Q S (fuel+1) l a w:=
 wpAnyH_take hi hs hf hr hQ (.inl ⟨hw,hy⟩) hS (by rw[ha];exact h)
theorem tks{P:Program}{md:Region.Mode}(i:Nat){oi:Oper}{fuel:Nat}{l:Array Bool}{a a':Go.Act}{w:World}(hS:S w)(h:wpAnyH P md ops Q S fuel (l.setIfInBounds i true) a' w)
  (hi:ops[i]? =some oi:=by rfl)(hs:Region.noSelect ops=true:=by kernel_rfl)(hf:Region.free md ops l i=true:=by kernel_rfl)(hr:(Region.ready md ops l).contains i=true:=by kernel_rfl)(hw:Region.wanted oi (yielded ops a.tmps)=false:=by rfl)
  (ha:a.put oi.dst undef=a':=by (simp only[Go.Act.put,getElem_toArray,getElem_cons_zero,getElem_cons_succ,setIfInBounds_toArray,set_cons_zero,set_cons_succ];try rfl))
  (hQ:∀c a w,Q (.panic c) (a.put oi.dst undef) w->Q (.panic c) a w:=by exact λ_ _ _ h=>h):wpAnyH P md ops Q S (fuel+1) l a w:=
 wpAnyH_take hi hs hf hr hQ (.inr ⟨hw,rfl⟩) hS (by rw[ha];exact h)
theorem tkl{P:Program}{md:Region.Mode}(i:Nat){oi:Oper}{v:Value}{fuel:Nat}{l:Array Bool}{a a':Go.Act}{w:World}(hi:ops[i]? =some oi)(hy:YieldsIf P ops S oi v a)(hS:S w)(h:wpAnyH P md ops Q S fuel (l.setIfInBounds i true) a' w)
  (hs:Region.noSelect ops=true:=by kernel_rfl)(hf:Region.free md ops l i=true:=by kernel_rfl)(hr:(Region.ready md ops l).contains i=true:=by kernel_rfl)
  (ha:a.put oi.dst v=a':=by (simp only[Go.Act.put,getElem_toArray,getElem_cons_zero,getElem_cons_succ,setIfInBounds_toArray,set_cons_zero,set_cons_succ];try rfl))
  (hQ:∀c a w,Q (.panic c) (a.put oi.dst v) w->Q (.panic c) a w:=by exact λ_ _ _ h=>h):wpAnyH P md ops Q S (fuel+1) l a w:=
 wpAnyH_take hi hs hf hr hQ hy hS (by rw[ha];exact h)
theorem rd{P:Program}{md:Region.Mode}(i:Nat){o:Oper}{fuel:Nat}{l:Array Bool}{a:Go.Act}{w:World}
  (h:∀K':Go.Act->World->Prop,Shut (∀a w,S w->(S w->wpAnyH P md ops Q S fuel (l.setIfInBounds i true) a w)->K' a w)->if Region.wanted o (yielded ops a.tmps)=true then Oper.wp P o a w K' Q else K' (a.put o.dst undef) w)
  (ho:ops[i]? =some o:=by rfl)(hr:Region.ready md ops l=[i]:=by kernel_rfl):wpAnyH P md ops Q S (fuel+1) l a w:=
 wpAnyH_ready hr (by simp) (AllReadyH.cons ho h AllReadyH.nil)
theorem zn4(w:World)(x:Int)(t:TypeId):Row (w.alloc (.cells #[.int .i64 x] t)) (some ⟨w.heap.size,0,none⟩) 1 [x]:=by
 refine⟨rfl,om,.inr ⟨_,_,rfl,λi hi=> ?_⟩⟩;obtain rfl:i=0:=om;simp[getD]
theorem zyc(w:World)(x y:Int)(t:TypeId):Row (w.alloc (.cells #[.int .i64 x,.int .i64 y] t)) (some ⟨w.heap.size,0,none⟩) 2 [x,y]:=by
 refine⟨rfl,om,.inr ⟨_,_,rfl,λi hi=> ?_⟩⟩;obtain rfl | rfl:i=0∨i=1:=om
 ·simp[getD]
 ·simp[getD]
theorem zps(x:Int):zaL [x]=okB x:=by simp[zaL]
theorem zpt(x y:Int):zaL [x,y]=(okB x && okB y):=by simp[zaL]
def zk6(x:Int):Int:=if okB x then x else 0
def zk7(x:Int):Int:=if okB x then 0 else 6
theorem zaa(w:World)(o:Obj):Bw w (w.alloc o):=(Below.refl _ _).alloc (Nat.le_refl _) o
theorem zad{a b:World}(h:Bw w a)(k:Bw a b):Bw w b:=h.trans (k.mono h.size)
theorem zag{a:World}(h:Bw w a)(o:Obj):Bw w (a.alloc o):=h.alloc h.size o
theorem zk8(x:Int)(w:World):
  Calls prog 321 #[.int .i64 x] w λe w'=>e= .returned (.tuple #[.int .i64 (zk6 x),.int .i64 (zk7 x)])/\Bw w w':=by
 by_cases h:okB x=true
 ·have e1:zk6 x=x:=by unfold zk6;rw[if_pos h]
  have e2:zk7 x=0:=by unfold zk7;rw[if_pos h]
  rw[e1,e2];clear e1 e2;have hr:zaL [x]=true:=by rw[zps];exact h
  clear h;go_enter func321,ntmps321;go_wp2_with (go_at_call 249;refine (zbF _ _ _ [x] _ (zn4 w x 44)).mono ?_;rintro e w' ⟨rfl,rfl⟩);go_ret2;exact⟨rfl,zaa _ _⟩
 ·have h':okB x=false:=by simpa using h
  have e1:zk6 x=0:=by unfold zk6;rw[if_neg h]
  have e2:zk7 x=6:=by unfold zk7;rw[if_neg h]
  rw[e1,e2];clear e1 e2;have hr:zaL [x]=false:=by rw[zps];exact h'
  clear h h';go_enter func321,ntmps321;go_wp2_with (go_at_call 249;refine (zbF _ _ _ [x] _ (zn4 w x 44)).mono ?_;rintro e w' ⟨rfl,rfl⟩);go_ret2;exact⟨rfl,zaa _ _⟩
theorem zpu(ha:okB a=true)(hb:okB b=true): -4611686018427387904<=a*b/\a*b<=4611686018427387904:=by
 rw[zfj]at ha hb;have h:(a*b).natAbs<=2147483648*2147483648:=by
  rw[Int.natAbs_mul];exact Nat.mul_le_mul om om
 omega
def zk2(a b:Int):Int:=if okB a && okB b then zk6 (a*b / 65536) else 0
def zed(a b:Int):Int:=if okB a && okB b then zk7 (a*b / 65536) else 1
theorem zpv(a b:Int)(w:World):
  Calls prog 313 #[.int .i64 a,.int .i64 b] w λe w'=>e= .returned (.tuple #[.int .i64 (zk2 a b),.int .i64 (zed a b)])/\Bw w w':=by
 by_cases h:(okB a && okB b)=true
 ·have e1:zk2 a b=zk6 (a*b / 65536):=by unfold zk2;rw[if_pos h]
  have e2:zed a b=zk7 (a*b / 65536):=by unfold zed;rw[if_pos h]
  rw[e1,e2];clear e1 e2;have hr:zaL [a,b]=true:=by rw[zpt];exact h
  obtain⟨ha,hb⟩:=Bool.and_eq_true_iff.1 h;obtain⟨xw,xx⟩:=zpu ha hb;clear h ha hb;go_enter func313,ntmps313;go_wp2_with (first | (go_at_call 249;refine (zbF _ _ _ [a,b] _ (zyc w a b 44)).mono ?_;rintro e w' ⟨rfl,rfl⟩) | (go_at_call 321;refine (zk8 _ _).mono ?_;rintro e w' ⟨rfl,hb⟩))
  go_ret2;exact⟨rfl,(zaa w _).trans (hb.mono (by simp))⟩
 ·have h':(okB a && okB b)=false:=by simpa using h
  have e1:zk2 a b=0:=by unfold zk2;rw[if_neg h]
  have e2:zed a b=1:=by unfold zed;rw[if_neg h]
  rw[e1,e2];clear e1 e2;have hr:zaL [a,b]=false:=by rw[zpt];exact h'
  clear h h';go_enter func313,ntmps313;go_wp2_with (go_at_call 249;refine (zbF _ _ _ [a,b] _ (zyc w a b 44)).mono ?_;rintro e w' ⟨rfl,rfl⟩);go_ret2;exact⟨rfl,zaa _ _⟩
theorem zmB(zs:List Int)(k:Nat)(h:zaL zs=true)(hk:k<zs.length): -2147483648<=zs.getD k 0/\zs.getD k 0<=2147483647:=by
 unfold zaL at h;rw[all_eq_true]at h;have hm:zs.getD k 0∈zs:=by
  simp only[getD,getElem?_eq_getElem hk,Option.getD_some];exact getElem_mem hk
 exact zfj.1 (h _ hm)
theorem zmC(zs:List Int)(k:Nat)(h:k<zs.length):(zs.take (k+1)).sum=(zs.take k).sum+zs.getD k 0:=by
 rw[take_add_one,sum_append];simp[getD,getElem?_eq_getElem h]
theorem zu4(zs:List Int)(h:zaL zs=true):∀k:Nat,k<=zs.length->-2147483648*(k:Int)<=(zs.take k).sum/\(zs.take k).sum<=2147483648*(k:Int)
 | 0,_=>by simp
 | k+1,hk=>by
  have ih:=zu4 zs h k om;have hb:=zmB zs k h om;rw[zmC zs k om];omega
def zdI(zs:List Int):Bool:=decide (zs.length<=1024) && zaL zs
def zio(zs:List Int):Int:=if zdI zs then zk6 zs.sum else 0
def zfk(zs:List Int):Int:=if zdI zs then zk7 zs.sum else 1
theorem zvX(b off len cap:Nat)(zs:List Int)(w:World)(hl:zs.length=len)(hle:len<=1024)(hr:zaL zs=true)(hc:∀j,j<len->w.cell? ⟨b,off+j,none⟩=some (.int .i64 (zs.getD j 0))):
  Calls prog 314 #[.slice (some ⟨b,off,none⟩) len cap] w λe w'=>e= .returned (.tuple #[.int .i64 (zk6 zs.sum),.int .i64 (zk7 zs.sum)])/\Bw w w':=by
 have HL:=kA hl;have HC:=kA hc;have HB:=kA (zu4 zs hr);have HO:=kA (zmB zs · hr);have row:Row w (some ⟨b,off,none⟩) len zs:=⟨hl,om,.inr ⟨b,off,rfl,hc⟩⟩;have hJ:=kA row;clear hl hc row;go_enter func314,ntmps314;go_wp2_with (go_at_call 249;refine (zbF _ _ _ zs _ hJ).mono ?_;rintro e w' ⟨rfl,rfl⟩)
 go_loop [4,17] (λs i=>∃k:Nat,k<=len/\i= .int .i64 k/\s= .int .i64 (zs.take k).sum) (λ_ i=>len - (intOf i).toNat)
 case atStart=>exact⟨0,zero_le _,rfl,rfl⟩
 case round=>
  obtain⟨k,hk,rfl,rfl⟩:=hrel;obtain⟨s1,s2⟩:=HB.out k (by rw[HL.out];exact hk)
  by_cases hlt:k<len
  ·have KV:k<zs.length:=by rw[HL.out];exact hlt
   obtain⟨x,hx⟩:∃x,x=zs.getD k 0:=⟨_,rfl⟩;have hcell:=HC.out k hlt;obtain⟨x1,x2⟩:=HO.out k KV;have H1:=kA (zmC zs k KV);rw[<-hx]at hcell x1 x2;rw[<-hx]at H1;clear hx KV;go_wp2
   go_round
   case rel=>exact⟨k+1,om,by go_num,by rw[H1.out]⟩
   case measure=>simp[intOf];omega
  ·have e:zs.take k=zs:=take_of_length_le (by rw[HL.out];omega);rw[e]at*;clear e;go_wp2_with (go_at_call 321;refine (zk8 _ _).mono ?_;rintro e w' ⟨rfl,hb⟩);go_ret2;exact⟨rfl,hb⟩
theorem zpw(a:Option Addr)(cap:Nat)(w:World):
  Calls prog 314 #[.slice a 0 cap] w λe w'=>e= .returned (.tuple #[.int .i64 (zk6 0),.int .i64 (zk7 0)])/\Bw w w':=by
 go_enter func314,ntmps314;go_wp2_with (go_at_call 249;refine (zgn _ _ _).mono ?_;rintro e w' ⟨rfl,rfl⟩)
 go_loop [4,17] (λs i=>i= .int .i64 0/\s= .int .i64 0) (λ_ _=>0)
 case atStart=>exact⟨rfl,rfl⟩
 case round=>
  obtain⟨rfl,rfl⟩:=hrel;go_wp2_with (go_at_call 321;refine (zk8 _ _).mono ?_;rintro e w' ⟨rfl,hb⟩);go_ret2;exact⟨rfl,hb⟩
theorem zsJ(a:Option Addr)(len cap:Nat)(w:World)(h:1024<len)(Hy:len<=9223372036854775807):
  Calls prog 314 #[.slice a len cap] w λe w'=>e= .returned (.tuple #[.int .i64 0,.int .i64 1])/\Bw w w':=by
 go_enter func314,ntmps314;go_wp2;go_ret2;exact⟨rfl,Below.refl _ _⟩
theorem zpx(a:Option Addr)(len cap:Nat)(zs:List Int)(w:World)(h:len<=1024)(hr:zaL zs=false)(row:Row w a len zs):
  Calls prog 314 #[.slice a len cap] w λe w'=>e= .returned (.tuple #[.int .i64 0,.int .i64 1])/\Bw w w':=by
 have hJ:=kA row;clear row;go_enter func314,ntmps314;go_wp2_with (go_at_call 249;refine (zbF _ _ _ zs _ hJ).mono ?_;rintro e w' ⟨rfl,rfl⟩);go_ret2;exact⟨rfl,Below.refl _ _⟩
theorem zhM(hl:zs.length=len)(h:1024<len):zdI zs=false:=by
 unfold zdI;rw[decide_eq_false om];rfl
theorem zgo(h:zaL zs=false):zdI zs=false:=by unfold zdI;rw[h,Bool.and_false]
theorem zgp(hl:zs.length=len)(h:len<=1024)(hr:zaL zs=true):zdI zs=true:=by
 unfold zdI;rw[decide_eq_true om,hr];rfl
theorem zpy(h:zdI zs=false):zio zs=0:=by unfold zio;rw[if_neg (by rw[h];decide)]
theorem zpz(h:zdI zs=false):zfk zs=1:=by unfold zfk;rw[if_neg (by rw[h];decide)]
theorem zsK(h:zdI zs=true):zio zs=zk6 zs.sum:=by unfold zio;rw[if_pos h]
theorem zmD(h:zdI zs=true):zfk zs=zk7 zs.sum:=by unfold zfk;rw[if_pos h]
theorem zpA(a:Option Addr)(len cap:Nat)(zs:List Int)(w:World)(h:Row w a len zs):
  Calls prog 314 #[.slice a len cap] w λe w'=>e= .returned (.tuple #[.int .i64 (zio zs),.int .i64 (zfk zs)])/\Bw w w':=by
 have row:=h;obtain⟨hl,hm,h0⟩:=h
 by_cases hn:1024<len
 ·rw[zpy (zhM hl hn),zpz (zhM hl hn)];exact zsJ a len cap w hn hm
 ·by_cases hr:zaL zs=true
  ·rw[zsK (zgp hl om hr),zmD (zgp hl om hr)];rcases h0 with h0 | ⟨b,off,rfl,hc⟩
   ·subst h0;obtain rfl:=eq_nil_of_length_eq_zero hl;exact zpw a cap w
   ·exact zvX b off len cap zs w hl om hr hc
  ·have C2:zaL zs=false:=by simpa using hr
   rw[zpy (zgo C2),zpz (zgo C2)];exact zpx a len cap zs w om C2 row
theorem zpB(h:(okB a && okB b)=true):zk2 a b=zk6 (a*b / 65536)/\zed a b=zk7 (a*b / 65536):=by
 unfold zk2 zed;rw[if_pos h,if_pos h];exact⟨rfl,rfl⟩
theorem zyd(h:(okB a && okB b)=false):zk2 a b=0/\zed a b=1:=by
 have h':¬(okB a && okB b)=true:=by rw[h];decide
 unfold zk2 zed;rw[if_neg h',if_neg h'];exact⟨rfl,rfl⟩
def zc5(a b c:Int):Int:=if a=0 then (if b=0 then c else b) else a
def zpn(e v:Int):Int:=if e=0 then v else 0
def Blk(w:World)(g:Nat)(t:TypeId)(cs:Array Value):Prop:=w.heap[g]? =some (.cells cs t (0,0))
theorem Blk.same(h:Blk w g t cs)(e:w'.heap[g]? =w.heap[g]?):Blk w' g t cs:=by
 unfold Blk at*;rw[e,h]
theorem Blk.lt(h:Blk w g t cs):g<w.heap.size:=(Array.getElem?_eq_some_iff.1 h).1
theorem Blk.cell(h:Blk w g t cs)(i:Nat):w.cell? ⟨g,i,none⟩=cs[i]? :=by
 unfold Blk at h;simp[World.cell?,h]
theorem Blk.frozen(h:Blk w g t cs)(i:Nat):w.frozen? ⟨g,i,none⟩=false:=by
 unfold Blk at h;simp[World.frozen?,h]
theorem Blk.new(w:World)(t:TypeId)(cs:Array Value):Blk (w.alloc (.cells cs t)) w.heap.size t cs:=heap_alloc_new w (.cells cs t)
theorem Blk.keep(h:Blk w g t cs)(hb:Bw w w'):Blk w' g t cs:=h.same (hb.block g h.lt)
theorem Blk.alloc(h:Blk w g t cs)(o:Obj):Blk (w.alloc o) g t cs:=h.keep (zaa w o)
theorem Blk.set_(h:Blk w g t cs)(i:Nat)(u:Value):Blk (w.setCell ⟨g,i,none⟩ u) g t (cs.setIfInBounds i u):=by
 unfold Blk at*;simp[World.setCell,Array.getElem?_modify,h]
theorem Blk.far(h:Blk w g t cs){p:Addr}(hp:g≠p.block)(u:Value):Blk (w.setCell p u) g t cs:=by
 refine h.same ?_;simp[World.setCell,Array.getElem?_modify,Ne.symm hp]
theorem zpC{x y z:Value}(h:Blk w g t #[x,y,z]):w.cell? ⟨g,0,none⟩=some x/\w.cell? ⟨g,1,none⟩=some y/\w.cell? ⟨g,2,none⟩=some z/\w.frozen? ⟨g,0,none⟩=false/\w.frozen? ⟨g,1,none⟩=false/\w.frozen? ⟨g,2,none⟩=false:=
 ⟨h.cell 0,h.cell 1,h.cell 2,h.frozen 0,h.frozen 1,h.frozen 2⟩
def zbt(F:Nat):Prop:=∀args w,(callFunc F args).run prog w= .ok (.enter F args) w
theorem zbe{g':Nat}(h:Blk w g t cs)(e:g=g'):Blk w g' t cs:=e ▸ h
abbrev V3:=Int × Int × Int
def ok3(x y z:Int):Bool:=zaL [x,y,z]
def okV(v:V3):Bool:=ok3 v.1 v.2.1 v.2.2
def zbW(vs:List V3):Bool:=vs.all okV
def zk9:V3:=(0,0,0)
theorem zpD{x:Addr}(h:w.cell? x=some v):x.block<w.heap.size:=by
 by_cases hb:x.block<w.heap.size
 ·exact hb
 ·have e:w.heap[x.block]? =none:=Array.getElem?_eq_none om;simp[World.cell?,e]at h
theorem zao{x:Addr}(h:w.cell? x=some v)(hb:Bw w w'):w'.cell? x=some v:=by
 rw[hb.cell (zpD h)];exact h
theorem zar{a:Option Addr}(h:Row w a len zs)(hb:Bw w w'):Row w' a len zs:=by
 obtain⟨h1,h2,h3⟩:=h;refine⟨h1,h2,?_⟩;rcases h3 with h3 | ⟨b,off,e,hc⟩
 ·exact .inl h3
 ·exact .inr ⟨b,off,e,λi hi=>zao (hc i hi) hb⟩
def VRow(w:World)(a:Option Addr)(len:Nat)(vs:List V3):Prop:=
 vs.length=len/\len<=9223372036854775807/\(len=0∨∃b off,a=some ⟨b,off,none⟩/\∀i,i<len->
  w.cell? ⟨b,off+i*3,none⟩=some (.int .i64 (vs.getD i zk9).1)/\w.cell? ⟨b,off+i*3+1,none⟩=some (.int .i64 (vs.getD i zk9).2.1)/\w.cell? ⟨b,off+i*3+2,none⟩=some (.int .i64 (vs.getD i zk9).2.2))
theorem zc6{a:Option Addr}{vs:List V3}(h:VRow w a len vs)(hb:Bw w w'):VRow w' a len vs:=by
 obtain⟨h1,h2,h3⟩:=h;refine⟨h1,h2,?_⟩;rcases h3 with h3 | ⟨b,off,e,hc⟩
 ·exact .inl h3
 ·exact .inr ⟨b,off,e,λi hi=>⟨zao (hc i hi).1 hb,zao (hc i hi).2.1 hb,zao (hc i hi).2.2 hb⟩⟩
theorem VRow.at_{a:Option Addr}{vs:List V3}(h:VRow w a len vs)(hk:k<len):
  ∃b off x y z,a=some ⟨b,off,none⟩/\vs[k]? =some (x,y,z)/\w.cell? ⟨b,off+k*3,none⟩=some (.int .i64 x)/\w.cell? ⟨b,off+k*3+1,none⟩=some (.int .i64 y)/\w.cell? ⟨b,off+k*3+2,none⟩=some (.int .i64 z):=by
 obtain⟨h1,h2,h3⟩:=h;rcases h3 with h3 | ⟨b,off,rfl,hc⟩
 ·omega
 ·have KV:k<vs.length:=om;obtain⟨c0,c1,c2⟩:=hc k hk;have e:vs.getD k zk9=vs[k]:=by simp[getD,getElem?_eq_getElem KV]
  rw[e]at c0 c1 c2;exact⟨b,off,_,_,_,rfl,getElem?_eq_getElem KV,c0,c1,c2⟩
theorem zla{vs:List V3}(h:vs[k]? =some (x,y,z))(hr:zbW (vs.take k)=true)(ho:ok3 x y z=true):zbW (vs.take (k+1))=true:=by
 unfold zbW at hr ⊢;rw[take_add_one,all_append,hr,h];simpa[okV] using ho
theorem zn5{vs:List V3}(h:vs[k]? =some (x,y,z))(ho:ok3 x y z=false):zbW vs=false:=by
 unfold zbW;rw[all_eq_false];exact⟨(x,y,z),mem_of_getElem? h,by simpa[okV] using ho⟩
theorem zn6{vs:List V3}(hr:zbW (vs.take k)=true)(h:vs.length<=k):zbW vs=true:=by
 rwa [take_of_length_le h]at hr
theorem zzD(h:Blk w g t #[.int .i64 x,.int .i64 y,.int .i64 z]):Row w (some ⟨g,0,none⟩) 3 [x,y,z]:=by
 refine⟨rfl,om,.inr ⟨_,_,rfl,λi hi=> ?_⟩⟩;obtain rfl | rfl | rfl:i=0∨i=1∨i=2:=om
 ·exact h.cell 0
 ·exact h.cell 1
 ·exact h.cell 2
theorem zn7(ho:ok3 x y z=true)(h:Blk w g t #[.int .i64 x,.int .i64 y,.int .i64 z]):
  Calls prog 249 #[.slice (some ⟨g,0,none⟩) 3 cap] w λe w'=>e= .returned (.bool true)/\w=w':=
 (zbF _ 3 cap [x,y,z] w (zzD h)).mono λ_ _ ⟨he,hw⟩=>⟨by rw[he,show zaL [x,y,z]=true from ho],hw⟩
theorem zpE(ho:ok3 x y z=false)(h:Blk w g t #[.int .i64 x,.int .i64 y,.int .i64 z]):
  Calls prog 249 #[.slice (some ⟨g,0,none⟩) 3 cap] w λe w'=>e= .returned (.bool false)/\w=w':=
 (zbF _ 3 cap [x,y,z] w (zzD h)).mono λ_ _ ⟨he,hw⟩=>⟨by rw[he,show zaL [x,y,z]=false from ho],hw⟩
theorem zn8(a:Option Addr)(len cap:Nat)(vs:List V3)(w:World)(row:VRow w a len vs):
  Calls prog 277 #[.slice a len cap] w λe w'=>e= .returned (.bool (zbW vs))/\Bw w w':=by
 have HL:=kA row.1;have Hy:=row.2.1;have hJ:=kA row;clear row;go_enter func277,ntmps277;go_wp2
 go_loopw [4,7] (λ_ i wr=>∃k:Nat,k<=len/\i= .int .i64 k/\zbW (vs.take k)=true/\Bw w wr) (λ_ i _=>len - (intOf i).toNat)
 case atStart=>exact⟨0,zero_le _,rfl,rfl,Below.refl _ _⟩
 case round=>
  obtain⟨k,hk,rfl,hr,hb⟩:=hrel;have HR:=kA hr;have HB:=kA hb;clear hr hb
  by_cases hlt:k<len
  ·obtain⟨b,off,x,y,z,rfl,hv,c0,c1,c2⟩:=(zc6 hJ HB).at_ hlt;have HV:=kA hv;clear hv
   by_cases ho:ok3 x y z=true
   ·have HO:=kA ho;clear ho;go_wp2_with (go_at_call 249;refine (zn7 HO (Blk.new _ _ _)).mono ?_;rintro e w' ⟨rfl,rfl⟩);go_roundw
    case rel=>exact⟨k+1,om,by go_num,zla HV HR HO,zag HB _⟩
    case measure=>simp[intOf];omega
   ·have D3:ok3 x y z=false:=by simpa using ho
    have HO:=kA D3;clear ho D3;go_wp2_with (go_at_call 249;refine (zpE HO (Blk.new _ _ _)).mono ?_;rintro e w' ⟨rfl,rfl⟩);go_ret;exact⟨zdr (zn5 HV HO).symm,zag HB _⟩
  ·go_wp2;go_ret;exact⟨zdr (zn6 HR (by rw[HL.out];omega)).symm,HB⟩
theorem zaE{w1:World}(h:Below w.drew.heap.size w.drew w1):Bw w w1:=⟨h.os,h.tape,h.output,h.size,h.block⟩
theorem zd3{x:Addr}(hb:Below w.drew.heap.size w.drew w')(h:w.cell? x=some v):w'.cell? x=some v:=zao h (zaE hb)
theorem Blk.drew(h:Blk w g t cs):Blk w.drew g t cs:=h
theorem World.rowIs.keep{b:Nat}{f:Nat->Value}(h:w.rowIs b t n f)(hb:Bw w w'):w'.rowIs b t n f:=h.of_block (hb.block b h.lt)
theorem zpF{b:Nat}(hl:zs.length=n)(hn:n<=9223372036854775807)(h:w.rowIs b t n (λj=> .int .i64 (zs.getD j 0))):Row w (some ⟨b,0,none⟩) n zs:=
 ⟨hl,hn,.inr ⟨b,0,rfl,λi hi=>by rw[Nat.zero_add];exact h.cell hi⟩⟩
def ok6(x0 x1 x2 y0 y1 y2:Int):Bool:=ok3 x0 x1 x2 && ok3 y0 y1 y2
theorem zvY(x0 x1 x2 y0 y1 y2:Int):zbW [(x0,x1,x2),(y0,y1,y2)]=ok6 x0 x1 x2 y0 y1 y2:=by simp[zbW,okV,ok6]
theorem zjB(h:ok3 x y z=true):okB x=true/\okB y=true/\okB z=true:=by simpa[ok3,zaL,and_assoc] using h
theorem zpG(h:ok6 x0 x1 x2 y0 y1 y2=true):ok3 x0 x1 x2=true/\ok3 y0 y1 y2=true:=by simpa[ok6] using h
theorem zlb{a:World}{u0 u1 u2:Value}(h:Bw w a)(hg:w.heap.size<=g):Bw w (((a.setCell ⟨g,0,none⟩ u0).setCell ⟨g,1,none⟩ u1).setCell ⟨g,2,none⟩ u2):=((h.setCell hg _).setCell hg _).setCell hg _
theorem zlc(h:Blk w g t #[.int .i64 x0,.int .i64 x1,.int .i64 x2,.int .i64 y0,.int .i64 y1,.int .i64 y2]):VRow w (some ⟨g,0,none⟩) 2 [(x0,x1,x2),(y0,y1,y2)]:=by
 refine⟨rfl,om,.inr ⟨_,_,rfl,λi hi=> ?_⟩⟩;obtain rfl | rfl:i=0∨i=1:=om
 ·exact⟨h.cell 0,h.cell 1,h.cell 2⟩
 ·exact⟨h.cell 3,h.cell 4,h.cell 5⟩
theorem zn9(v:Int):zpn 0 v=v:=rfl
def bet(bt:Int->Int->Bool)(b x:Int):Int:=if bt x b then x else b
def betV(bt:Int->Int->Bool)(b x:V3):V3:=(bet bt b.1 x.1,bet bt b.2.1 x.2.1,bet bt b.2.2 x.2.2)
def pk(bt:Int->Int->Bool):List V3->V3
 | []=>zk9
 | v::r=>r.foldl (betV bt) v
def zc7(x y:Int):Bool:=decide (x<y)
def zip(x y:Int):Bool:=decide (x>y)
theorem zld(h:bt x b=true):bet bt b x=x:=by unfold bet;rw[if_pos h]
theorem zpH(h:bt x b=false):bet bt b x=b:=by unfold bet;rw[h];rfl
theorem zu5{vs:List V3}{v:V3}(h:vs[0]? =some v):pk bt (vs.take 1)=v:=by
 cases vs with
 | nil=>simp at h
 | cons a r=>simp at h;subst h;simp[pk]
theorem zvZ{vs:List V3}{v:V3}(h:vs[k+1]? =some v):pk bt (vs.take (k+2))=betV bt (pk bt (vs.take (k+1))) v:=by
 cases vs with
 | nil=>simp at h
 | cons a r=>
  have h':r[k]? =some v:=by simpa using h
  simp only[take_succ_cons,pk];rw[take_add_one,h'];simp
theorem zu6{vs:List V3}(h:vs.length<=k):pk bt (vs.take k)=pk bt vs:=by rw[take_of_length_le h]
def zf4(F:Nat)(bt:Int->Int->Bool):Prop:=∀x y w,Calls prog F #[.int .i64 x,.int .i64 y] w λe w'=>e= .returned (.bool (bt x y))/\w=w'
theorem zsL:zf4 306 zc7:=by
 intro x y w;unfold zc7;go_enter func306,ntmps306;go_wp2;go_ret;exact⟨rfl,rfl⟩
theorem zsM:zf4 315 zip:=by
 intro x y w;unfold zip;go_enter func315,ntmps315;go_wp2;go_ret;exact⟨rfl,rfl⟩
theorem zle:zbt 306:=λ_ _=>oM
theorem zlf:zbt 315:=λ_ _=>oM
def AGG(v:V3):Value:= .agg #[.int .i64 v.1,.int .i64 v.2.1,.int .i64 v.2.2]
def BV(w:World)(g:Nat)(v:V3):Prop:=Blk w g 48 #[.int .i64 v.1,.int .i64 v.2.1,.int .i64 v.2.2]
theorem zoa(F:Nat)(a:Option Addr)(cap:Nat)(w:World):
  Calls prog 305 #[.slice a 0 cap,.func (.func F) #[] #[]] w λe w'=>e= .returned (.agg #[.int .i64 0,.int .i64 0,.int .i64 0])/\Bw w w':=by
 go_enter func305,ntmps305;go_wp2;exact bodyPost_ret (v:= .agg #[.int .i64 0,.int .i64 0,.int .i64 0]) (by simp[results,results305,go_sem]) rfl ⟨rfl,zaa _ _⟩
theorem idx0(x y z:Int)(w:World):(Instr.index 48 (.agg #[.int .i64 x,.int .i64 y,.int .i64 z]) (.int .i64 0)).run prog w= .ok (.int .i64 x) w:=oM
theorem idx1(x y z:Int)(w:World):(Instr.index 48 (.agg #[.int .i64 x,.int .i64 y,.int .i64 z]) (.int .i64 1)).run prog w= .ok (.int .i64 y) w:=oM
theorem idx2(x y z:Int)(w:World):(Instr.index 48 (.agg #[.int .i64 x,.int .i64 y,.int .i64 z]) (.int .i64 2)).run prog w= .ok (.int .i64 z) w:=oM
def mid(bt:Int->Int->Bool)(b x:V3)(p:Nat):V3:=(if 0<p then bet bt b.1 x.1 else b.1,if 1<p then bet bt b.2.1 x.2.1 else b.2.1,if 2<p then bet bt b.2.2 x.2.2 else b.2.2)
theorem zsN(h:bt x b0=true)(hB:BV w g (mid bt (b0,b1,b2) (x,y,z) 0)):BV (w.setCell ⟨g,0,none⟩ (.int .i64 x)) g (mid bt (b0,b1,b2) (x,y,z) 1):=by
 have h1:=Blk.set_ hB 0 (.int .i64 x);have e:=zld h;unfold BV;simp only[mid,e]at h1 ⊢;exact h1
theorem zv0(h:bt x b0=false)(hB:BV w g (mid bt (b0,b1,b2) (x,y,z) 0)):BV w g (mid bt (b0,b1,b2) (x,y,z) 1):=by
 have e:=zpH h;unfold BV at hB ⊢;simp only[mid,e]at hB ⊢;exact hB
theorem zsO(h:bt y b1=true)(hB:BV w g (mid bt (b0,b1,b2) (x,y,z) 1)):BV (w.setCell ⟨g,1,none⟩ (.int .i64 y)) g (mid bt (b0,b1,b2) (x,y,z) 2):=by
 have h1:=Blk.set_ hB 1 (.int .i64 y);have e:=zld h;unfold BV;simp only[mid,e]at h1 ⊢;exact h1
theorem zv1(h:bt y b1=false)(hB:BV w g (mid bt (b0,b1,b2) (x,y,z) 1)):BV w g (mid bt (b0,b1,b2) (x,y,z) 2):=by
 have e:=zpH h;unfold BV at hB ⊢;simp only[mid,e]at hB ⊢;exact hB
theorem zsP(h:bt z b2=true)(hB:BV w g (mid bt (b0,b1,b2) (x,y,z) 2)):BV (w.setCell ⟨g,2,none⟩ (.int .i64 z)) g (mid bt (b0,b1,b2) (x,y,z) 3):=by
 have h1:=Blk.set_ hB 2 (.int .i64 z);have e:=zld h;unfold BV;simp only[mid,e]at h1 ⊢;exact h1
theorem zv2(h:bt z b2=false)(hB:BV w g (mid bt (b0,b1,b2) (x,y,z) 2)):BV w g (mid bt (b0,b1,b2) (x,y,z) 3):=by
 have e:=zpH h;unfold BV at hB ⊢;simp only[mid,e]at hB ⊢;exact hB
theorem zsQ(F:Nat)(bt:Int->Int->Bool)(hF:zbt F)(hc:zf4 F bt)(b off len cap:Nat)(vs:List V3)(w:World)(kh:0<len)(hcap:len<=cap)(Dd:1<cap)(Hy:cap<=9223372036854775807)(row:VRow w (some ⟨b,off,none⟩) len vs):
  Calls prog 305 #[.slice (some ⟨b,off,none⟩) len cap,.func (.func F) #[] #[]] w λe w'=>e= .returned (AGG (pk bt vs))/\Bw w w':=by
 have HL:=kA row.1;have hJ:=kA row;have xy:=kA hc;clear row hc;unfold zbt at hF;obtain⟨b',dV,x,y,z,he,hv,c0,c1,c2⟩:=(zc6 hJ (zaa _ (.cells #[.int .i64 0,.int .i64 0,.int .i64 0] 48))).at_ kh;obtain⟨rfl,rfl⟩:b'=b/\dV=off:=by simp at he;exact⟨he.1.symm,he.2.symm⟩
 have HV:=kA hv;clear hv he;simp only[Nat.zero_mul,Nat.add_zero]at c0 c1 c2;have Hd:(len==0)=false:=by simp;omega
 have N9:((len:Int)==0)=false:=by simp;omega
 go_enter func305,ntmps305;go_wp2
 go_loopw [20] (λi wr=>∃k:Nat,k<=len - 1/\i= .int .i64 k/\BV wr (w.heap.size+1) (pk bt (vs.take (k+1)))/\BV wr w.heap.size zk9/\Bw w wr) (λi _=>len - 1 - (intOf i).toNat)
 case atStart=>
  refine⟨0,zero_le _,rfl,?_,(Blk.new w _ _).alloc _,zag (zaa _ _) _⟩;rw[zu5 HV];exact zbe (Blk.new (w.alloc _) _ _) (by simp)
 case round=>
  obtain⟨k,hk,rfl,hr,hz,hb⟩:=hrel;have HR:=kA hr;have HZ:=kA hz;have HB:=kA hb;clear hr hz hb c0 c1 c2
  by_cases hlt:k<len - 1
  ·obtain⟨b2,off2,x1,y1,z1,he,hv,c0,c1,c2⟩:=(zc6 hJ HB).at_ (show k+1<len by omega);obtain⟨rfl,rfl⟩:b2=b'/\off2=dV:=by simp at he;exact⟨he.1.symm,he.2.symm⟩
   have Cw:=kA hv;clear hv he;rw[show off2+(k+1)*3=off2+3+k*3 by omega]at c0 c1 c2;obtain⟨⟨p0,p1,p2⟩,hp⟩:∃p,p=pk bt (vs.take (k+1)):=⟨_,rfl⟩;rw[<-hp]at HR;have HP:=kA hp;clear hp;go_wp2
   go_loopw [25] (λi wi=>∃q:Nat,q<=3/\i= .int .i64 q/\BV wi (w.heap.size+1) (mid bt (p0,p1,p2) (x1,y1,z1) q)/\BV wi w.heap.size zk9/\Bw w wi) (λi _=>3 - (intOf i).toNat)
   case atStart=>exact⟨0,om,rfl,HR.alloc _,HZ.alloc _,zag HB _⟩
   case round=>
    obtain⟨q,hq,rfl,hr,hz,hb⟩:=hrel;have ki:=kA hr;have DF:=kA hz;have Hm:=kA hb;clear hr hz hb;obtain rfl | rfl | rfl | rfl:q=0∨q=1∨q=2∨q=3:=om
    ·obtain⟨d0,d1,d2,f0,f1,f2⟩:=zpC (x:= .int .i64 p0) (y:= .int .i64 p1) (z:= .int .i64 p2) ki;have hi:=idx0 x1 y1 z1
     by_cases KD:bt x1 p0=true
     ·go_wp2_with fail;refine (xy _ _ _).mono ?_;rintro e w' ⟨rfl,rfl⟩;go_wp2;go_roundw
      case rel=>exact⟨1,om,rfl,zsN KD ki,DF.far (by simp) _,Hm.setCell (by simp) _⟩
      case measure=>simp[intOf]
     ·have XD:bt x1 p0=false:=by simpa using KD
      clear KD;go_wp2_with fail;refine (xy _ _ _).mono ?_;rintro e w' ⟨rfl,rfl⟩;go_wp2;go_roundw
      case rel=>exact⟨1,om,rfl,zv0 XD ki,DF.out,Hm⟩
      case measure=>simp[intOf]
    ·obtain⟨d0,d1,d2,f0,f1,f2⟩:=zpC (x:= .int .i64 (bet bt p0 x1)) (y:= .int .i64 p1) (z:= .int .i64 p2) ki;have hi:=idx1 x1 y1 z1
     by_cases KD:bt y1 p1=true
     ·go_wp2_with fail;refine (xy _ _ _).mono ?_;rintro e w' ⟨rfl,rfl⟩;go_wp2;go_roundw
      case rel=>exact⟨2,om,rfl,zsO KD ki,DF.far (by simp) _,Hm.setCell (by simp) _⟩
      case measure=>simp[intOf]
     ·have XD:bt y1 p1=false:=by simpa using KD
      clear KD;go_wp2_with fail;refine (xy _ _ _).mono ?_;rintro e w' ⟨rfl,rfl⟩;go_wp2;go_roundw
      case rel=>exact⟨2,om,rfl,zv1 XD ki,DF.out,Hm⟩
      case measure=>simp[intOf]
    ·obtain⟨d0,d1,d2,f0,f1,f2⟩:=zpC (x:= .int .i64 (bet bt p0 x1)) (y:= .int .i64 (bet bt p1 y1)) (z:= .int .i64 p2) ki;have hi:=idx2 x1 y1 z1
     by_cases KD:bt z1 p2=true
     ·go_wp2_with fail;refine (xy _ _ _).mono ?_;rintro e w' ⟨rfl,rfl⟩;go_wp2;go_roundw
      case rel=>exact⟨3,om,rfl,zsP KD ki,DF.far (by simp) _,Hm.setCell (by simp) _⟩
      case measure=>simp[intOf]
     ·have XD:bt z1 p2=false:=by simpa using KD
      clear KD;go_wp2_with fail;refine (xy _ _ _).mono ?_;rintro e w' ⟨rfl,rfl⟩;go_wp2;go_roundw
      case rel=>exact⟨3,om,rfl,zv2 XD ki,DF.out,Hm⟩
      case measure=>simp[intOf]
    ·go_wp2;go_roundw
     case rel=>exact⟨k+1,om,by go_num,by rw[zvZ Cw,<-HP.out];exact ki.out,DF.out,Hm⟩
     case measure=>simp[intOf];omega
  ·obtain⟨⟨p0,p1,p2⟩,hp⟩:∃p,p=pk bt (vs.take (k+1)):=⟨_,rfl⟩;rw[<-hp]at HR;rw[zu6 (by rw[HL.out];omega)]at hp;have HP:=kA hp;clear hp;obtain⟨d0,d1,d2,f0,f1,f2⟩:=zpC (x:= .int .i64 p0) (y:= .int .i64 p1) (z:= .int .i64 p2) HR;obtain⟨z0,z1,z2,g0,g1,g2⟩:=zpC (x:= .int .i64 0) (y:= .int .i64 0) (z:= .int .i64 0) HZ;go_wp2;exact bodyPost_ret (v:= .agg #[.int .i64 p0,.int .i64 p1,.int .i64 p2]) (by simp[results,results305,go_sem,z0,z1,z2]) rfl ⟨by rw[<-HP.out];rfl,zlb HB om⟩
theorem zpI(F:Nat)(bt:Int->Int->Bool)(b off:Nat)(vs:List V3)(w:World)(row:VRow w (some ⟨b,off,none⟩) 1 vs):
  Calls prog 305 #[.slice (some ⟨b,off,none⟩) 1 1,.func (.func F) #[] #[]] w λe w'=>e= .returned (AGG (pk bt vs))/\Bw w w':=by
 have HL:=kA row.1;obtain⟨b',dV,x,y,z,he,hv,c0,c1,c2⟩:=(zc6 row (zaa _ (.cells #[.int .i64 0,.int .i64 0,.int .i64 0] 48))).at_ (show 0<1 by omega);obtain⟨rfl,rfl⟩:b'=b/\dV=off:=by simp at he;exact⟨he.1.symm,he.2.symm⟩
 have hp:pk bt vs=(x,y,z):=by rw[<-zu6 (k:=1) (by rw[HL.out];omega),zu5 hv]
 have HP:=kA hp;clear hv he row hp;simp only[Nat.zero_mul,Nat.add_zero]at c0 c1 c2;go_enter func305,ntmps305;go_wp2;refine wp_loop_rounds 1 ?_;rw[rounds_succ];go_wp2;exact bodyPost_ret (v:= .agg #[.int .i64 x,.int .i64 y,.int .i64 z]) (by simp[results,results305,go_sem]) rfl ⟨by rw[HP.out];rfl,by first | exact zag (zaa _ _) _ | exact zlb (zag (zaa _ _) _) om⟩
theorem zmE(F:Nat)(bt:Int->Int->Bool)(hF:zbt F)(hc:zf4 F bt)(a:Option Addr)(len cap:Nat)(vs:List V3)(w:World)(hcap:len<=cap)(Hy:cap<=9223372036854775807)(row:VRow w a len vs):
  Calls prog 305 #[.slice a len cap,.func (.func F) #[] #[]] w λe w'=>e= .returned (AGG (pk bt vs))/\Bw w w':=by
 by_cases h0:len=0
 ·subst h0;obtain rfl:=eq_nil_of_length_eq_zero row.1;exact zoa F a cap w
 ·obtain⟨b,off,rfl,_⟩:∃b off,a=some ⟨b,off,none⟩/\True:=by
   rcases row.2.2 with h | ⟨b,off,h,_⟩
   ·exact absurd h h0
   ·exact⟨b,off,h,trivial⟩
  by_cases h1:cap=1
  ·subst h1;obtain rfl:len=1:=om;exact zpI F bt b off vs w row
  ·exact zsQ F bt hF hc b off len cap vs w om hcap om Hy row
theorem zpJ(a:Option Addr)(len cap:Nat)(vs:List V3)(w:World)(hcap:len<=cap)(Hy:cap<=9223372036854775807)(row:VRow w a len vs):
  Calls prog 278 #[.slice a len cap] w λe w'=>e= .returned (AGG (pk zc7 vs))/\Bw w w':=by
 have hJ:=kA row;clear row;obtain⟨⟨p0,p1,p2⟩,hp⟩:∃p,p=pk zc7 vs:=⟨_,rfl⟩;have HP:=kA hp;clear hp;go_enter func278,ntmps278;go_wp2_with fail;refine (zmE _ zc7 zle zsL _ _ _ vs _ hcap Hy (zc6 hJ (zaa _ _))).mono ?_;rw[<-HP.out];unfold AGG;rintro e w1 ⟨rfl,b1⟩;have k1:=kA ((Blk.new w 48 _).keep b1);have B1:=kA (zad (zaa _ _) b1);clear b1;obtain⟨c10,c11,c12,f10,f11,f12⟩:=zpC k1;go_wp2;exact bodyPost_ret (v:= .agg #[.int .i64 p0,.int .i64 p1,.int .i64 p2]) (by simp[results,results278,go_sem,c10,c11,c12]) rfl ⟨by rw[<-HP.out];rfl,zlb B1 om⟩
theorem zjC(a:Option Addr)(len cap:Nat)(vs:List V3)(w:World)(hcap:len<=cap)(Hy:cap<=9223372036854775807)(row:VRow w a len vs):
  Calls prog 292 #[.slice a len cap] w λe w'=>e= .returned (AGG (pk zip vs))/\Bw w w':=by
 have hJ:=kA row;clear row;obtain⟨⟨p0,p1,p2⟩,hp⟩:∃p,p=pk zip vs:=⟨_,rfl⟩;have HP:=kA hp;clear hp;go_enter func292,ntmps292;go_wp2_with fail;refine (zmE _ zip zlf zsM _ _ _ vs _ hcap Hy (zc6 hJ (zaa _ _))).mono ?_;rw[<-HP.out];unfold AGG;rintro e w1 ⟨rfl,b1⟩;have k1:=kA ((Blk.new w 48 _).keep b1);have B1:=kA (zad (zaa _ _) b1);clear b1;obtain⟨c10,c11,c12,f10,f11,f12⟩:=zpC k1;go_wp2;exact bodyPost_ret (v:= .agg #[.int .i64 p0,.int .i64 p1,.int .i64 p2]) (by simp[results,results292,go_sem,c10,c11,c12]) rfl ⟨by rw[<-HP.out];rfl,zlb B1 om⟩
theorem zzE(a b c d e f:Int)(w:World):(Op.equalIn 10000 48 (.agg #[.int .i64 a,.int .i64 b,.int .i64 c]) (.agg #[.int .i64 d,.int .i64 e,.int .i64 f])).run prog w= .ok (a==d && b==e && c==f) w:=by
 have u3:=underlying44;have a3:=isAgg44;have z3:=sizeOf44;rw[show (10000:Nat)=9999+1 from rfl,Op.equalIn];simp only[Sem.run_bind,run_underlying underlying48,Result.andThen_ok];simp only[Std.Legacy.Range.forIn_eq_forIn_range',Std.Legacy.Range.size,Nat.sub_zero,Nat.add_sub_cancel,Nat.div_one,range'_succ,range'_zero,forIn_cons,forIn_nil];go_simp
 by_cases h1:a=d <;> by_cases h2:b=e <;> by_cases h3:c=f <;> simp[h1,h2,h3]
def av:List V3:=[(65536,-131072,196608),(65536,-131072,196608),(5,0,0)]
theorem zgq(hk:k<3)(h:∀j,j<k->e j=0)(he:e k≠0):zc5 (e 0) (e 1) (e 2)=e k:=by
 unfold zc5;obtain rfl | rfl | rfl:k=0∨k=1∨k=2:=om
 ·rw[if_neg he]
 ·rw[if_pos (h 0 om),if_neg he]
 ·rw[if_pos (h 0 om),if_pos (h 1 om)]
theorem zeh(h:∀j,j<3->e j=0):zc5 (e 0) (e 1) (e 2)=0:=by
 unfold zc5;rw[if_pos (h 0 om),if_pos (h 1 om),h 2 om]
end Go.Proofs.YtlibdcmcbinfnaaGreat
