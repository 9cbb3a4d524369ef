/- Lemmas. -/
import Derived.Test.YtlibdcmcbinfnaaGreatMS35
import Derived.WalkMore
import Derived.ScopeJumps
import Derived.Test.YtlibdcmcbinfnaaGreatMS37
set_option maxHeartbeats 100000000
set_option maxRecDepth 1000000
namespace Go.Proofs.YtlibdcmcbinfnaaGreat
open _root_.Go.Proofs.Tryz List Nat
open Go.RowKit
def goK(S:St)(k:Nat):List Int:=((S.go.drop k).reverse).map Prod.fst
variable{S:St}{k g n:Nat}{w:World}{F:Nat->Prop}{ops:Array Oper}{op:Oper}{a:Go.Act}{Q:Exit->Go.Act->World->Prop}
theorem zuy{x:Int × Int}(h:S.go[k]? =some x):goK S k=goK S (k+1)++[x.1]:=by
 unfold goK;have:S.go.drop k=x::S.go.drop (k+1):=by
  obtain⟨hk,e⟩:=List.getElem?_eq_some_iff.1 h;rw[<-e,drop_eq_getElem_cons hk]
 rw[this,reverse_cons,map_append];rfl
theorem zr6{since:Int}(hd:∀x∈S.go.drop k,since<x.2)(ht:∀x∈S.go.take k,x.2<=since):S.go.filter (λx=>decide (since<x.2))=S.go.drop k:=by
 have e:S.go=S.go.take k++S.go.drop k:=(take_append_drop k S.go).symm;rw[e,filter_append,filter_eq_nil_iff.2 (λx hx=>by have:=ht x hx;simpa using this),List.filter_eq_self.2 (λx hx=>by have:=hd x hx;simpa using this),nil_append,<-e]
theorem zy8{since:Int}(hp:S.go.Pairwise (λa b=>a.2<=b.2))(hd:∀x∈S.go.drop k,since<x.2)(hk:∀x,0<k->S.go[k - 1]? =some x->x.2<=since)(hl:k<=S.go.length):(goK S k).mergeSort (λx y=>decide (x<=y))=goL S since:=by
 have ht:∀x∈S.go.take k,x.2<=since:=λx hx=>by
  obtain⟨j,hj,e⟩:=mem_iff_getElem.1 hx;rw[length_take]at hj;rw[getElem_take]at e;have Cw:k - 1<S.go.length:=om;have h1:=hk _ om (getElem?_eq_getElem Cw)
  by_cases c:j=k - 1
  ·subst c;rw[<-e];exact h1
  ·have:=List.pairwise_iff_getElem.1 hp j (k - 1) om Cw om;rw[<-e];omega
 refine zmW ?_;rw[zr6 hd ht];unfold goK;exact (reverse_perm _).map _
theorem zr7(h0:LSB w g F S)(hB:Bd S 1000)(since:Int):
  Calls prog 118 #[.pointer (some ⟨g,0,none⟩),.int .i64 since] w λe w'=>∃v,e= .returned v/\LRes w w' (goL S since) v/\Bw w w':=by
 obtain⟨ls,lt,⟨p,mb,ts,Lf,gv,lab,h,hF⟩,hI⟩:=h0;have HP:=kA hI.gop;have hg:=h.row.lt;have ku:=hB.2.1;have c515:=h.c515;obtain⟨a,cap,hv,hcap,Hr⟩:=ColX.form h.gos;rw[length_map]at hv hcap;have CF:=h.gos;rw[hv]at CF c515
 have HR:Hid (∀u,Bw w u->∀j x,S.go[j]? =some x->∃b,a=some ⟨b,0,none⟩/\b<u.heap.size/\u.cell? ⟨b,j*2,none⟩=some (.int .i64 x.1)/\u.cell? ⟨b,j*2+1,none⟩=some (.int .i64 x.2)):=kA (λu q j x hx=>by
  have hj:=(List.getElem?_eq_some_iff.1 hx).1;obtain⟨b,cap',cur,Vm,kD,_⟩:=ColX.open_ CF (by rw[length_map];omega);injection Vm with Vm _ _;subst Vm;have hr:=ColX.range (c:=cG) (k:=2) (λ_=>rfl) CF (i:=j) (x:=mkG x) (by rw[getElem?_map,hx];rfl);have h1:w.cell? ⟨b,j*2,none⟩=some (.int .i64 x.1):=hr 0 _ rfl;have h2:w.cell? ⟨b,j*2+1,none⟩=some (.int .i64 x.2):=hr 1 _ rfl
  exact⟨b,rfl,Nat.lt_of_lt_of_le kD.lt q.size,zam h1 q,zam h2 q⟩)
 have HC:Hid (∀u,Bw w u->u.cell? ⟨g,515,none⟩=some (.slice a S.go.length cap)):=kA (λu q=>zam c515 q);obtain⟨i0,kB,kQ,kR,kH⟩:=info_parts zcr;have HI:=kA (And.intro kB (And.intro kQ (And.intro kR kH)));obtain⟨n,hn⟩:∃n,n=S.go.length:=⟨_,rfl⟩;rw[<-hn]at c515 HC hcap ku;have HN:=kA hn;clear kB kQ kR kH h hF hI hB CF hv hn;go_enter func118,ntmps118;go_wp2
 go_loopw [5,6] (λv i wr=>∃k:Nat,k<=n/\i= .int .i64 ((k:Int) - 1)/\(∀x∈S.go.drop k,since<x.2)/\OwnD wr w.heap.size v (n - k) (goK S k)/\Bw w wr) (λ_ i _=>(ivl i+1).toNat)
 case atStart=>exact⟨n,om,by go_num,by rw[HN.out,drop_length];simp,by rw[Nat.sub_self,show goK S n=[] by unfold goK;rw[HN.out,drop_length];rfl];exact OwnD.nil _ _,Below.refl _ _⟩
 case round=>
  obtain⟨k,hk,rfl,d8,Hc,hb⟩:=hrel;have xS:=kA d8;have Hp:=kA Hc;have HB:=kA hb;have yj:g<wr.heap.size:=Nat.lt_of_lt_of_le hg hb.size;have Kr:w.heap.size<=wr.heap.size:=hb.size;have cw:=HC.out wr hb;clear d8 Hc hb c515
  have kT:Hid ((∀x,0<k->S.go[k - 1]? =some x->x.2<=since)->∃v:Value,∃nn qa qcap,v= .slice qa nn qcap/\u5=v/\Calls prog 74 #[v] wr λe w2=>e= .returned (.tuple #[])/\LRes w w2 (goL S since) v/\Bw w w2):=kA (λhx=>by
   obtain⟨qa,qcap,YZ,_⟩:=Hp.row;refine⟨u5,n - k,qa,qcap,YZ,rfl,?_⟩;refine (zeL Hp om).mono ?_;rintro e w2 ⟨rfl,ho,Hj⟩;refine⟨rfl,?_,zbl Hp (Nat.le_refl _) HB Hj⟩;rw[zy8 HP xS hx (by rw[<-HN.out];exact hk)]at ho
   exact LRes.of9 ho (Nat.le_refl _))
  by_cases hk0:k=0
  ·subst hk0;obtain⟨v,nn,qa,qcap,hv,hu,hs⟩:=kT.out (λx c=>om);have HS:=kA hs;subst hu;subst hv;clear hs kT;go_wp2_with fail;refine HS.mono ?_;rintro e w2 ⟨rfl,hr,hb⟩;have H7:=kA (And.intro hr hb);clear hr hb;go_wp2;go_ret;exact⟨_,rfl,H7.1,H7.2⟩
  ·obtain⟨j,rfl⟩:∃j,k=j+1:=⟨k - 1,om⟩;have vA:j<n:=om;obtain⟨x,hx⟩:∃x,S.go[j]? =some x:=⟨_,getElem?_eq_getElem (by rw[<-HN.out];exact vA)⟩;obtain⟨b,rfl,Ht,cx,ct⟩:=HR.out wr HB j x hx;rw[show ((j+1:Nat):Int) - 1=(j:Int) by omega];have j0:(0:Int)<=(j:Int):=om;have j1:(j:Int)<(n:Int):=om;have HK:=kA (zuy hx);have HX:=kA hx;obtain⟨x1,t⟩:=x;simp only at cx ct HK
   by_cases hc:since<t
   ·have KU:decide (since<t)=true:=decide_eq_true hc;clear kT hx;go_wp2_with (at_builtin;refine wpList_append_own _ rfl (.tmp 31) (.tmp 40) 35 rfl w.heap.size 81 i0 (.int .i64 0) 1 8 underlying35 HI.1 HI.2.1 HI.2.2.1 HI.2.2.2 rfl (by decide) _ _ _ rfl (Hp.alloc _) ⟨wr.heap.size,0,none⟩ 1 1 [.int .i64 x1] rfl rfl (cell_one_new _ _ _) (by intro u hu;simp at hu;subst hu;rfl) (by unfold maxLen;omega) om (by simp;omega) ?_);intro v' w2 kJ kK _;have Kv:=kA kJ;have Cx:=kA kK;clear kJ kK;go_wp2;go_roundw
    case rel=>
     refine⟨j,om,by go_num,λy hy=> ?_,?_,zbS Hp (Nat.le_refl _) HB Kr Cx⟩
     ·obtain⟨Qf,e⟩:=List.getElem?_eq_some_iff.1 HX;rw[drop_eq_getElem_cons Qf,e]at hy;rcases mem_cons.1 hy with rfl | hy
      ·exact hc
      ·exact xS y hy
     ·unfold OwnD;rw[HK.out,map_append,show n - j=n - (j+1)+1 by omega];exact Kv
    case measure=>simp[ivl] <;> omega
   ·have KU:decide (since<t)=false:=decide_eq_false hc
    obtain⟨v,nn,qa,qcap,hv,hu,hs⟩:=kT.out (λy _ e=>by
     rw[show j+1 - 1=j by omega,hx]at e;injection e with e;rw[<-e]
     omega)
    have HS:=kA hs;subst hu;subst hv;clear hs kT hx;go_wp2_with fail;refine HS.mono ?_;rintro e w2 ⟨rfl,hr,hb⟩;have H7:=kA (And.intro hr hb);clear hr hb;go_wp2;go_ret;exact⟨_,rfl,H7.1,H7.2⟩
def zpm(p mb:Nat):List Value:=(range 516).map (lF p mb 1 (λ_=>0) (λ_=>0) (.slice none 0 0))
theorem zuz(p mb:Nat)(W:World):(Instr.build 138 #[(0,.pointer (some ⟨p,0,none⟩)),(1,.map (some mb)),(2,.int .i64 1)]).run prog W= .ok (.agg (zpm p mb).toArray) W:=oM
theorem zmf{rest:List Oper}(kX:op.guard=none)(t:TypeId)(x y z:Operand)(ho:op.op= .build t #[(0,x),(1,y),(2,z)])(vx vy vz vr:Value)(hx:a.eval x=vx)(hy:a.eval y=vy)(hz:a.eval z=vz)
  (Hi:∀W,(Instr.build t #[(0,vx),(1,vy),(2,vz)]).run prog W= .ok vr W)
  (h:wpList prog ops Q rest (a.put op.dst vr) w):wpList prog ops Q (op::rest) a w:=
 wpList_plain kX λK hK=>by
  have h2:=hK _ _ h;unfold Oper.wp execOp;simp only[ho];simp[hx,hy,hz,Hi];exact h2
theorem zxx(r:Nat):LI (St0 r) (λ_=>0) (λ_=>0):=by
 refine⟨?_,λx h=> ?_,?_,List.Pairwise.nil,λx h=> ?_⟩
 ·rintro x P ⟨i,_,h⟩
  cases h
 ·have h2:n0 (x % 256).toNat=true:=(zaU.1 h).2.2.1
  cases h2
 ·show ([]:List Int).Nodup;simp
 ·cases h
theorem zy9{w1:World}{p r:Nat}(hp:w1.rowIs p 189 513 (zbC r z0 n0)):
  ∃F,LSB ((w1.alloc (.map #[] 0)).alloc (.cells (zpm p w1.heap.size).toArray 138)) (w1.heap.size+1) F (St0 r)/\∀b,F b->b=p∨w1.heap.size<=b:=by
 have zW:=hp.lt;have hs:(w1.alloc (.map #[] 0)).heap.size=w1.heap.size+1:=by simp
 have Hd:((w1.alloc (.map #[] 0)).alloc (.cells (zpm p w1.heap.size).toArray 138)).rowIs (w1.heap.size+1) 138 516 (lF p w1.heap.size 1 (λ_=>0) (λ_=>0) (.slice none 0 0)):=by
  have h:=World.rowIs_alloc (w1.alloc (.map #[] 0)) (zpm p w1.heap.size).toArray 138 (lF p w1.heap.size 1 (λ_=>0) (λ_=>0) (.slice none 0 0)) (λi hi=>by
   have hi':i<516:=by simpa[zpm] using hi
   unfold zpm
   simp[hi'])
  rw[hs]at h;have e:(zpm p w1.heap.size).toArray.size=516:=by simp[zpm]
  rwa [e]at h
 have hb:Bw w1 ((w1.alloc (.map #[] 0)).alloc (.cells (zpm p w1.heap.size).toArray 138)):=zad (zaa _ _) (zaa _ _);have hm:TM ((w1.alloc (.map #[] 0)).alloc (.cells (zpm p w1.heap.size).toArray 138)) w1.heap.size (λ_=>none):=(TM.new w1).same ((zaa (w1.alloc (.map #[] 0)) (.cells (zpm p w1.heap.size).toArray 138)).block _ (by rw[hs];omega));refine⟨zc1 (w1.heap.size+1) p w1.heap.size (λ_ _=>False) (.slice none 0 0),⟨λ_=>0,λ_=>0,⟨p,w1.heap.size,λ_=>none,λ_ _=>False,.slice none 0 0,λb=>if b=p then 1 else if b=w1.heap.size then 2 else 0,⟨Hd,World.rowIs.keep hp hb,hm,λi _=>⟨rfl,λ_ c=>c⟩,ColX.nil _ _ _ _,?_,?_,?_,λb e=>(by cases e),λi _ b c=>c.elim⟩,λ_=>Iff.rfl⟩,zxx r⟩,?_⟩
 ·show (if w1.heap.size+1=p then 1 else if w1.heap.size+1=w1.heap.size then 2 else 0)=0
  rw[if_neg om,if_neg om]
 ·show (if p=p then 1 else if p=w1.heap.size then 2 else 0)=1
  rw[if_pos rfl]
 ·show (if w1.heap.size=p then 1 else if w1.heap.size=w1.heap.size then 2 else 0)=2
  rw[if_neg om,if_pos rfl]
 ·rintro b (e | e | e | e | ⟨i,_,e⟩)
  ·exact .inr om
  ·exact .inl e
  ·exact .inr om
  ·cases e
  ·exact e.elim
theorem zuA(w:World)(r:Nat)(hr:r<=256):
  Calls prog 25 #[.int .i64 r] w λe w'=>∃g F,e= .returned (.tuple #[.pointer (some ⟨g,0,none⟩),.int .i64 0])/\LSB w' g F (St0 r)/\(∀b,F b->w.heap.size<=b)/\Bw w w':=by
 have Qi:=kA (qnew r w hr);have X3:= @run_makeMap prog;clear hr;go_enter func25,ntmps25;go_wp2_with fail;refine Qi.mono ?_;rintro e w1 ⟨p,rfl,hp,Hd,hb⟩;obtain⟨F,Cc,X6⟩:=zy9 Hd;have HF:=kA (And.intro Cc X6);have HB:=kA hb;have HP:=kA hp;have Ko:=kA (zuz p w1.heap.size);obtain⟨X,hX⟩:∃X,X=zpm p w1.heap.size:=⟨_,rfl⟩;rw[<-hX]at HF Ko;clear Cc X6 hb hp Hd hX Qi;go_wp2_with (refine zmf rfl 138 (.tmp 14) (.tmp 15) (.const (.int .i64 1)) rfl (.pointer (some ⟨p,0,none⟩)) (.map (some w1.heap.size)) (.int .i64 1) (.agg X.toArray) rfl rfl rfl Ko ?_);go_ret2;refine⟨w1.heap.size+1,F,rfl,HF.1,λb hb=> ?_,zad HB (zad (zaa _ _) (zaa _ _))⟩;rcases HF.2 b hb with c | c
 ·rw[c];exact HP
 ·exact Nat.le_trans HB.size c
theorem zuB(w:World)(x:Int)(hx:x<0∨256<x):
  Calls prog 25 #[.int .i64 x] w λe w'=>e= .returned (.tuple #[.pointer none,.int .i64 1])/\Bw w w':=by
 have Qi:=kA (qbad x w hx);clear hx;go_enter func25,ntmps25;go_wp2_with fail;refine Qi.mono ?_;rintro e w1 ⟨rfl,hb⟩;have HB:=kA hb;clear hb Qi;go_wp2;go_ret2;exact⟨rfl,HB⟩
theorem zAj(g R:Nat)(G:Nat->Int)(L:Nat->Bool)(w:World)(hP:POk R G L)(row:w.rowIs g 189 513 (zbC R G L)):
  Calls prog 161 #[.pointer (some ⟨g,0,none⟩)] w λe w'=>∃v,e= .returned v/\OwnD w' w.heap.size v (zd3 G L 256).length (zd3 G L 256)/\Bw w w':=by
 have d8:zd3 G L 256=zd3 G L R:=by
  have h1:=zja (G:=G) (λi hi=>(hP.2.2 i hi).1) (256 - R);have h2:=hP.1
  rwa [show R+(256 - R)=256 by omega]at h1
 rw[d8];have hR:=hP.1;have hJ:=kA row;have HG:=kA hP.gen;have cr:=zgD row;clear row hP d8;obtain⟨i0,kB,kQ,kR,kH⟩:=info_parts zcr;have HI:=kA (And.intro kB (And.intro kQ (And.intro kR kH)));clear kB kQ kR kH;go_enter func161,ntmps161;go_wp2
 go_loopw [3,11] (λv i wr=>∃k:Nat,k<=R/\i= .int .i64 k/\OwnD wr w.heap.size v (zd3 G L k).length (zd3 G L k)/\Bw w wr) (λ_ i _=>R - (ivl i).toNat)
 case atStart=>exact⟨0,om,rfl,OwnD.nil _ _,Below.refl _ _⟩
 case round=>
  clear cr;obtain⟨k,hk,rfl,Hc,hb⟩:=hrel;have Hp:=kA Hc;have HB:=kA hb;clear Hc hb;have H7:=kA (World.rowIs.keep hJ HB)
  by_cases hlt:k<R
  ·have cl:=zdK H7 (k:=k) om;have hk0:(0:Int)<=(k:Int):=om;have Cw:(k:Int)<256:=om;have bQ:(k:Int)<(R:Int):=om;have zg:g<wr.heap.size:=H7.lt;have hle:=ziu G L k
   by_cases hL:L k=true
   ·rw[hL]at cl;have HA:=kA (zqj (G:=G) hL);clear hL;obtain⟨n,hn⟩:∃n,n=(zd3 G L k).length:=⟨_,rfl⟩;rw[<-hn]at Hp hle;have HN:=kA hn;clear hn;have Kr:w.heap.size<=wr.heap.size:=HB.size;go_wp2_with fail;refine (zxh g R G L k _ HG om H7).mono ?_;rintro e w1 ⟨rfl,rfl⟩;go_wp2_with (at_builtin;refine wpList_append_own _ rfl (.tmp 20) (.tmp 24) 35 rfl w.heap.size 81 i0 (.int .i64 0) 1 8 underlying35 HI.1 HI.2.1 HI.2.2.1 HI.2.2.2 rfl (by decide) _ _ _ rfl (Hp.alloc _) ⟨wr.heap.size,0,none⟩ 1 1 [.int .i64 (nm (G k) k)] rfl rfl (cell_one_new _ _ _) (by intro u hu;simp at hu;subst hu;rfl) (by unfold maxLen;omega) om (by simp;omega) ?_);intro v' w2 kJ kK _;have Kv:=kA kJ;have Cx:=kA kK;clear kJ kK;go_wp2;go_roundw
    case rel=>
     have el:(zd3 G L (k+1)).length=n+1:=by rw[HA.out,length_append,<-HN.out];rfl
     refine⟨k+1,om,by go_num,?_,zbS Hp (Nat.le_refl _) HB Kr Cx⟩;rw[el];unfold OwnD;rw[HA.out,map_append];exact Kv
    case measure=>simp[ivl] <;> omega
   ·have Cy:L k=false:=by simpa using hL
    rw[Cy]at cl;have HA:=kA (zqk (G:=G) Cy);clear hL Cy;go_wp2;go_roundw
    case rel=>exact⟨k+1,om,by go_num,by rw[HA.out];exact Hp.out,HB⟩
    case measure=>simp[ivl] <;> omega
  ·obtain rfl:k=R:=om;obtain⟨a,cap,hv,_⟩:=Hp.row;subst hv;go_wp2;go_ret;exact⟨_,rfl,Hp.out,HB⟩
theorem zr8(h0:LSB w g F S)(hW:WS S):
  Calls prog 92 #[.pointer (some ⟨g,0,none⟩)] w λe w'=>∃v,e= .returned v/\LRes w w' (alS S) v/\Bw w w':=by
 have hg:=h0.inH;obtain⟨ls,lt,⟨p,mb,ts,Lf,gv,lab,h,hF⟩,hI⟩:=h0;have c0:=h.c0;have CX:Hid (Calls prog 161 #[.pointer (some ⟨p,0,none⟩)] w λe w'=>∃v,e= .returned v/\LRes w w' (alS S) v/\Bw w w'):=kA ((zAj p S.room S.G S.L w hW.ok h.pool).mono λ_ _ ⟨v,he,ho,hb⟩=>⟨v,he,LRes.of9 ho (Nat.le_refl _),hb⟩);clear h hF hI hW;go_enter func92,ntmps92;go_wp2_with fail;refine CX.mono ?_;rintro e w1 ⟨v,rfl,hr,hb⟩;have HR:=kA (And.intro hr hb);clear hr hb;go_wp2;go_ret;exact⟨v,rfl,HR.1,HR.2⟩
theorem zjj{P:Program}{c rest:Code}(l:Nat)(J:Go.Act->World->Prop)(μ:Go.Act->World->Nat)(hf:findLabel c l=some (Code.skip.seq rest))
  (pass:∀a w,J a w->rest.wp P (Exit.jump l (λa' w'=>J a' w'/\μ a' w'<μ a w) Q) a w)
  (first:(∀a w,J a w->rest.wp P (Exit.jump l J Q) a w)->c.wp P (Exit.jump l J Q) a w):(Code.scope c).wp P Q a w:=
 wp_scope_jumps l J μ hf (first (λa w h=>Code.wp_mono (λe a' w' q=>by
  cases e with
  | goto l'=>exact⟨q.1,q.2.1⟩
  | _=>exact q) (pass a w h))) (λa w h=>wp_seq (wp_skip (pass a w h)))
theorem zhG{rest:List Oper}(kX:op.guard=none)(ts tb:Operand)
  (ho:op.op= .call { callee:= .builtin .append,args:= #[ts,tb],argTypes:= #[35,35] })(base n:Nat)(v:Value)(zs:List Int)(hs:a.eval ts=v)(Hc:OwnD w base v n zs)(x:Option Addr)(m cap:Nat)(ys:List Int)(hx:a.eval tb= .slice x m cap)(row:Row w x m ys)(hn:n<=100000)(hm:m<=100000)(hb:base<=w.heap.size)
  (h:∀v' w',OwnD w' base v' (n+m) (zs++ys)->w.grownBy w' v.ownBlock->(v'.ownBlock=v.ownBlock∨v'.ownBlock=some w.heap.size)->wpList prog ops Q rest (a.put op.dst v') w'):wpList prog ops Q (op::rest) a w:=by
 obtain⟨i0,kB,kQ,kR,kH⟩:=info_parts zcr;have hl:ys.length=m:=row.1
 cases x with
 | none=>
  have zR:m=0:=by
   rcases row.2.2 with c | ⟨b,off,e,_⟩
   ·exact c
   ·cases e
  subst zR;have J4:ys=[]:=eq_nil_of_length_eq_zero hl;subst J4;have h2:=h v w (by rw[Nat.add_zero,append_nil];exact Hc) ⟨rfl,rfl,rfl,Nat.le_refl _,λ_ _ _=>rfl⟩ (.inl rfl);have hr:(Builtin.append_ #[35,35] op.type #[v,.slice none 0 cap]).run prog w= .ok v w:=by
   rcases Hc.2 with ⟨rfl,_⟩ | ⟨g,c,cur,rfl,_,_,ZW,_⟩
   ·simp[Builtin.append_,run_underlying underlying35,sizeOf,typeInfo,kB,Builtin.lenOf,Builtin.firstCells]
   ·simp[Builtin.append_,run_underlying underlying35,sizeOf,typeInfo,kB,Builtin.lenOf,Builtin.firstCells,loadCells,storeCells,ZW]
  refine wpList_plain kX λK hK=> ?_;have h3:=hK _ _ h2;unfold Oper.wp execOp;simp only[ho,resolve,invoke,builtin,Sem.run_bind,Sem.run_pure,Result.andThen_ok,map_toArray,map_cons,map_nil,hs,hx,hr];exact h3
 | some ad=>
  have xw:∀j u,(ys.map (Value.int .i64))[j]? =some u->w.cell? (ad.add j)=some u:=λj u hu=>by
   have hj:j<m:=by have:=(List.getElem?_eq_some_iff.1 hu).1;rw[length_map,hl]at this;exact this
   obtain⟨b,off,y,e,hy,cy⟩:=zch row hj;injection e with e;subst e;rw[Addr.add_mid,cy];rw[getElem?_map,hy]at hu;exact hu
  refine wpList_append_own_at _ kX ts tb 35 ho base 81 i0 (.int .i64 0) 1 8 underlying35 kB kQ kR kH rfl (by decide) v n (zs.map (Value.int .i64)) hs Hc ad m cap (ys.map (Value.int .i64)) hx (by rw[length_map,hl,Nat.mul_one]) xw (zlJ ys) (by unfold maxLen;omega) om hb ?_;intro v' w' h1 h2 _ h4;refine h v' w' ?_ h2 h4;unfold OwnD;rw[map_append];exact h1
def slen:Value->Nat
 | .slice _ n _=>n
 | _=>0
structure zAk (w wr:World) (L:FT) (xs:List Int) (v5 v8:Value) (pre S:List Int):Prop where
 eq:zfK L xs=pre++S.reverse.flatMap (beh L)
 own5:OwnD wr w.heap.size v5 pre.length pre
 own8:OwnD wr w.heap.size v8 S.length S
 far:∀b,v5.ownBlock=some b->v8.ownBlock≠some b
 low:Bw w wr
 rng:Rgs S
theorem zr9{L:FT}(h:WF L):∀S:List Int,S.length<=(S.flatMap (beh L)).length
 | []=>Nat.le_refl _
 | x::S=>by
  have ih:=zr9 h S;rw[flatMap_cons,length_append,length_cons,zqE h,length_cons];omega
theorem zsa{base:Nat}{v:Value}{zs:List Int}(h:OwnD w base v n zs):zqX v:=by
 rcases h.2 with ⟨rfl,_⟩ | ⟨g,cap,cur,rfl,_,_,hn,_⟩
 ·exact⟨none,0,0,rfl,Nat.le_refl _⟩
 ·exact⟨_,n,cap,rfl,hn⟩
section
variable {w:World} {g gp gc:Nat} {L:FT} {bl cp:Int->Nat}
theorem zoX(h:LF w g L gp gc bl cp)(hW:WF L)(hL:L.length<=1000){a:Option Addr}{n cap:Nat}{xs:List Int}(hn:n<=1000)(hr:Row w a n xs)(hx:Rgs xs):
  Calls prog 129 #[.pointer (some ⟨g,0,none⟩),.slice a n cap] w λe w'=>∃v,e= .returned v/\LRes w w' (zfK L xs) v/\zqX v/\Bw w w':=by
 have KF:=kA (zrd (cap:=cap) h hW hn hr hx);have Rr:=ztE hW xs;rw[hr.1]at Rr;have HW:=kA hW;have Bo:Hid (Rgs (zne L xs)):=kA (λz hz=>hx z (zbY.1 (mem_filter.1 hz).1));have Bp:=kA (zdv L xs);have Hw:Hid (∀u z,Bw w u->Rg z->Calls prog 121 #[.pointer (some ⟨g,0,none⟩),.int .i64 z] u λe w'=>∃v,e= .returned v/\OwnD w' u.heap.size v (chF L z).length (chF L z)/\Bw u w'):=kA (λu z q hz=>zeS (h.keep q) hL hz);have Bq:Hid (∀x z,z∈chF L x->Rg z):=kA (λx z hz=>zq7 hW.1 h.rng hz);obtain⟨i0,kB,kQ,kR,kH⟩:=info_parts zcr;have HI:=kA (And.intro kB (And.intro kQ (And.intro kR kH)));obtain⟨N,hN⟩:∃N,N=(zfK L xs).length:=⟨_,rfl⟩;rw[<-hN]at Rr;have HN:=kA hN;clear h hW hr hx kB kQ kR kH hN;go_enter func129,ntmps129;go_wp2;refine zjj 0 (λa' wr=>∃ (pre S:List Int) (v5 v6 v7 v8 u9 u10 u11 u12 u13 u14 u15 u16 u17 u18 u19 u20 u21 u22 u23 u24 u25 u26 u27 u28 u29 u30 u31 u32 u33 u34 u35 u36 u37 u38 u39 u40 u41 u42:Value),a'={ tmps:= #[.pointer (some ⟨g,0,none⟩),.slice a n cap,undef,undef,.slice none 0 0,v5,v6,v7,v8,u9,u10,u11,u12,u13,u14,u15,u16,u17,u18,u19,u20,u21,u22,u23,u24,u25,u26,u27,u28,u29,u30,u31,u32,u33,u34,u35,u36,u37,u38,u39,u40,u41,u42],defers:=[] }/\zAk w wr L xs v5 v8 pre S) (λa' _=>N - slen (a'.tmps.getD 5 undef)) rfl ?_ ?_
 ·rintro a' wr ⟨pre,S,v5,v6,v7,v8,u9,u10,u11,u12,u13,u14,u15,u16,u17,u18,u19,u20,u21,u22,u23,u24,u25,u26,u27,u28,u29,u30,u31,u32,u33,u34,u35,u36,u37,u38,u39,u40,u41,u42,rfl,xT⟩;have HV:=kA xT;have hge:=zr9 HW S.reverse;have Y3:pre.length+(S.reverse.flatMap (beh L)).length=N:=by rw[HN.out,xT.eq,length_append]
  rw[length_reverse]at hge;obtain⟨qa,qcap,YZ,-⟩:=xT.own5.row;have Kr:=xT.low.size;clear xT;rcases eq_nil_or_concat S with rfl | ⟨S',id,rfl⟩
  ·have HR:Hid (zfK L xs=pre):=kA (by rw[HV.eq];simp);obtain⟨ea,ecap,rfl,-⟩:=HV.own8.row;have HE:Hid (LRes w wr (zfK L xs) v5/\zqX v5/\Bw w wr):=kA ⟨by rw[HR.out];exact LRes.of9 HV.own5 (Nat.le_refl _),zsa HV.own5,HV.low⟩;clear YZ;go_wp2;simp only[Exit.jump];go_ret;exact⟨v5,rfl,HE⟩
  ·have ck:Rg id:=HV.rng id (by simp);have Vn:=kA ck;have Br:Hid (Rgs S'):=kA (λz hz=>HV.rng z (by simp[hz]));have Y4:(S'++[id]).length=S'.length+1:=by simp
   have o8:=HV.own8;rw[concat_eq_append]at o8 hge Y3;rw[Y4]at o8 hge;obtain⟨q,hq⟩:∃q,q=S'.length:=⟨_,rfl⟩;rw[<-hq]at o8 hge
   have HEq:Hid (zfK L xs=(pre++[id])++(S'++(chF L id).reverse).reverse.flatMap (beh L)):=kA (by
    rw[HV.eq,concat_eq_append,reverse_append,reverse_append,reverse_reverse,reverse_singleton,singleton_append,flatMap_cons,flatMap_append,zqE HW id]
    simp)
   have Y5:=kA HV.far;rcases o8.2 with ⟨_,k0⟩ | ⟨b8,cap8,cur8,Bt,_⟩
   ·omega
   ·subst Bt;have cid:wr.cell? ⟨b8,q,none⟩=some (.int .i64 id):=o8.at_ (by rw[hq];simp);have Bu:=(o8.lt _ rfl).2;have NJ:q+1<=cap8:=by obtain⟨_,_,_,_,z,_⟩:=o8.cells;exact z
    have O8:=kA (show OwnD wr w.heap.size (.slice (some ⟨b8,0,none⟩) q cap8) q S' from by
     have:=o8.cut (k:=q) om
     rwa [take_left' hq.symm]at this)
    have O5:=kA HV.own5;have HB:=kA HV.low;obtain⟨m5,Rt⟩:∃m5,m5=pre.length:=⟨_,rfl⟩;rw[<-Rt]at O5 Y3 YZ;have Bv:m5<N:=om;have By:m5<=2000:=om;have NK:q<=2000:=om;subst YZ;clear o8 HV Y4 hq ck Rt Y3 hge;have w1:IntKind.i64.wrap (((q+1:Nat):Int) - 1)=(q:Int):=by rw[IntKind.wrap_i64];omega
    have z0:¬(((q+1:Nat):Int)=0):=om;have z1:(0:Int)<=(q:Int):=om;have z2:(q:Int)<((q+1:Nat):Int):=om;have z3:(q:Int)<=(cap8:Int):=om;obtain⟨q1,xc⟩:∃q1,q1=q+1:=⟨_,rfl⟩;rw[<-xc]at w1 z0 z2 ⊢;have Bz:q1<=2001:=om;clear xc;go_wp2;go_quiet (fail);refine fin (λW=>OwnD W w.heap.size (.slice (some ⟨b8,0,none⟩) q cap8) q S'/\OwnD W w.heap.size (.slice qa m5 qcap) m5 pre/\Bw w W) ⟨O8.keep (Go.below_drewN (Below.refl _ _) nq),O5.keep (Go.below_drewN (Below.refl _ _) nq),Go.below_drewN HB nq⟩ ?_;clear O8 O5 HB cid Bu;rintro W ⟨o8,o5,Cb⟩;have O8:=kA o8;have O5:=kA o5;have HB:=kA Cb;have vO:=Cb.size;clear o8 o5 Cb;go_wp2_with (at_builtin;refine wpList_append_own_at _ rfl (.tmp 31) (.tmp 33) 35 rfl w.heap.size 81 i0 (.int .i64 0) 1 8 underlying35 HI.1 HI.2.1 HI.2.2.1 HI.2.2.2 rfl (by decide) _ _ _ rfl (O5.alloc _) ⟨W.heap.size,0,none⟩ 1 1 [.int .i64 id] rfl rfl (cell_one_new _ _ _) (by intro u hu;simp at hu;subst hu;rfl) (by unfold maxLen;omega) om (by simp;omega) ?_);intro TI W2 k1 k2 _ k4;have O5b:Hid (OwnD W2 w.heap.size TI (m5+1) (pre++[id])):=kA (by unfold OwnD;rw[map_append];exact k1);have He:=kA (zbS O5 (Nat.le_refl _) HB vO k2)
    have O8b:Hid (OwnD W2 w.heap.size (.slice (some ⟨b8,0,none⟩) q cap8) q S'):=kA (by
     have Hf:Bw W (W.alloc (.cells #[.int .i64 id] 81)):=zaa _ _;have o:=O8.keep Hf
     exact o.same (λb e=>k2.block b (o.lt b e).2 (λe2=>Y5.out b e2.symm e)))
    have Ym:Hid (∀b,TI.ownBlock=some b->b≠b8):=kA (λb e e2=>by
     rcases k4 with c | c
     ·exact Y5.out b (c ▸ e) (by rw[e2];rfl)
     ·rw[c]at e;injection e with e;have h1:=(O8.lt b8 rfl).2;have h2:W.heap.size<=(W.alloc (.cells #[.int .i64 id] 81)).heap.size:=(zaa W _).size
      omega)
    have Yl:=He.size;obtain⟨a5,c5,BA,-⟩:=O5b.row;subst BA;have qK:Hid ((∀b,(Value.slice a5 (m5+1) c5).ownBlock=some b->b<W2.heap.size)/\b8<W2.heap.size):=kA ⟨λb e=>(O5b.lt b e).2,(O8b.lt b8 rfl).2⟩;clear k1 k2 k4 O8 O5 HB Y5;have HC:=kA (Hw W2 id He.out Vn.out);go_wp2_with fail;refine HC.mono ?_;rintro e W3 ⟨v6b,rfl,o6,b3⟩;have dQ:=kA (zna o6);have O6:=kA o6;replace O5b:=kA (O5b.keep b3);replace O8b:=kA (O8b.keep b3);obtain⟨xa,xcap,BB,-⟩:=o6.row;subst BB;have Ky:=kA (zad He b3);have Ru:=Ky.size;have BC:=b3.size;clear o6 b3 HC;obtain⟨mk,qz⟩:∃mk,mk=(chF L id).length:=⟨_,rfl⟩;have Vo:=zen L id;rw[<-qz]at Vo dQ O6 ⊢;clear qz;go_wp2_with fail;refine dQ.mono ?_;rintro e W4 ⟨rfl,o6,g4⟩;have kP:=kA (zbl O6 Yl Ky g4);have BE:=kP.size
    have O5d:Hid (OwnD W4 w.heap.size (.slice a5 (m5+1) c5) (m5+1) (pre++[id])):=kA (O5b.same (λb e=>g4.block b (O5b.lt b e).2 (λe2=>by
     have h1:=(O6.lt b e2.symm).1;have h2:=qK.1 b e
     omega)))
    have O8d:Hid (OwnD W4 w.heap.size (.slice (some ⟨b8,0,none⟩) q cap8) q S'):=kA (O8b.same (λb e=>g4.block b (O8b.lt b e).2 (λe2=>by
     have h1:=(O6.lt b e2.symm).1;injection e with e;have e:b8=b:=e;have h2:=qK.2
     omega)))
    have HX:Hid (Row W4 xa mk (chF L id).reverse):=kA (by
     obtain⟨mN,xcap2,e9,r9⟩:=o6.row;injection e9 with e9 _ _;rw[e9]
     exact r9)
    clear o6 g4 O6 O5b O8b dQ Ky He;go_wp2_with (at_builtin;refine zhG rfl (.tmp 40) (.tmp 41) rfl w.heap.size q _ S' rfl O8d xa mk xcap (chF L id).reverse rfl HX om om BE ?_);intro Sq W5 k1 k2 k3
    have HF:Hid (zAk w W5 L xs (.slice a5 (m5+1) c5) Sq (pre++[id]) (S'++(chF L id).reverse)):=kA (by
     have BF:(S'++(chF L id).reverse).length=q+mk:=by
      have:=k1.len;exact this
     have BG:(pre++[id]).length=m5+1:=O5d.len;refine⟨HEq,?_,by rw[BF];exact k1,λb e e2=> ?_,zbl O8d (Nat.le_refl _) kP k2,λz hz=> ?_⟩
     ·rw[BG];exact O5d.same (λb e=>k2.block b (O5d.lt b e).2 (λe2=>by injection e2 with e2;exact Ym b e e2))
     ·rcases k3 with c | c
      ·rw[c]at e2;injection e2 with e2;exact Ym b e e2.symm
      ·rw[c]at e2;injection e2 with e2;have:=(O5d.lt b e).2;omega
     ·rcases mem_append.1 hz with hz | hz
      ·exact Br z hz
      ·exact Bq id z (mem_reverse.1 hz))
    clear k1 k2 k3 O5d O8d HX kP;go_wp2
    go_step3
    refine⟨rfl,⟨pre++[id],S'++(chF L id).reverse,_,_,_,_,_,_,_,_,_,_,_,_,_,_,_,_,_,_,_,_,_,_,_,_,_,_,_,_,_,_,_,_,_,_,_,_,_,_,rfl,HF⟩,?_⟩;show N - (m5+1)<N - m5;omega
 ·intro DG;have Qj:=kA DG;clear DG;go_wp2_with fail;refine KF.mono ?_;rintro e w1 ⟨v8,rfl,o8,b1⟩;have dQ:=kA (zna o8);have O8:=kA o8;have Hk:=kA b1;clear o8 b1 KF;go_wp2_with fail;refine dQ.mono ?_;rintro e w2 ⟨rfl,o8,g2⟩;have HF:Hid (zAk w w2 L xs (.slice none 0 0) v8 [] (zne L xs).reverse):=kA ⟨by rw[Bp.out,reverse_reverse];rfl,OwnD.nil _ _,by rw[length_reverse];exact o8,λb e=>(by cases e),zbl O8 (Nat.le_refl _) Hk g2,λz hz=>Bo.out z (mem_reverse.1 hz)⟩;clear o8 g2 dQ O8 Hk;go_wp2
  go_step3
  rename_i K9 BH
  refine BH _ _ ?_;exact Qj _ _ ⟨[],(zne L xs).reverse,_,_,_,_,_,_,_,_,_,_,_,_,_,_,_,_,_,_,_,_,_,_,_,_,_,_,_,_,_,_,_,_,_,_,_,_,_,_,rfl,HF⟩
end
theorem hasX(s x:Int):zcv s [x]=zcl s x:=by unfold zcv;simp
theorem zsb(W:World):(Instr.build 205 #[]).run prog W= .ok (.agg (cNd n0d).toArray) W:=oM
section
variable {SB:World->Nat->(Nat->Prop)->St->Prop} {FB:World->Nat->(Nat->Prop)->FT->Prop}
theorem zmg(hC:SCx SB)(hF:FCx FB){w:World}{g:Nat}{F:Nat->Prop}{X:Sc}(h0:LXB SB FB w g F X)(hW:WX X)(hB:BSc X 900)(id:Int)(hid:Rg id):
  Calls prog 128 #[.pointer (some ⟨g,0,none⟩),.int .i64 id] w λe w'=>∃Y,e= .returned (.tuple #[.agg (toArray Y),.bool (zcF X.S id)])/\Y=cNd (zaS X id)/\Bw w w':=by
 obtain⟨P,hP⟩:∃P,P=zby X.S id:=⟨_,rfl⟩;obtain⟨ok,H8⟩:∃ok,ok=zcF X.S id:=⟨_,rfl⟩;have hN:zaS X id=if ok then ⟨id,(zak X.L id).getD (-1),if zcl P.1 0 then P.2.1 else zcx,zcl P.1 4⟩ else n0d:=by rw[H8,hP];rfl
 have xh:=zkv hC.kb hF.kb (SB:=SB) (FB:=FB);have Db:Hid (∀u,Bw w u->Calls prog 136 #[.pointer (some ⟨g,0,none⟩),.int .i64 id] u λe w'=>e= .returned (.tuple #[.agg (pl P).toArray,.bool ok])/\Bw u w'):=kA (λu q=>(zig hC hF (xh.keep h0 q) hW hB id).mono λe w' ⟨Y,k1,k2,k3⟩=>⟨by rw[k1,k2,hP,H8],k3⟩);obtain⟨o,ho⟩:∃o,o=zak X.L id:=⟨_,rfl⟩;have Dz:Hid (∀u,Bw w u->Calls prog 196 #[.pointer (some ⟨g,0,none⟩),.int .i64 id] u λe w'=>e= .returned (.tuple #[.int .i64 (zjr o),.bool o.isSome])/\Bw u w'):=kA (λu q=>by rw[ho];exact zfb hC hF (xh.keep h0 q) hW hB id hid);obtain⟨is,Zp⟩:∃is,is=o.isSome:=⟨_,rfl⟩;obtain⟨pv,X7⟩:∃pv,pv=zjr o:=⟨_,rfl⟩;obtain⟨up,xj⟩:∃up,up=o.getD (-1):=⟨_,rfl⟩
 have Vp:Hid ((is=false/\up= -1)∨(is=true/\up=pv)):=kA (by
  rw[Zp,xj,X7]
  cases o with
  | none=>exact .inl ⟨rfl,rfl⟩
  | some y=>exact .inr ⟨rfl,rfl⟩)
 rw[<-ho,<-xj]at hN;rw[<-Zp,<-X7]at Dz;rw[<-H8];have xU:Hid (∀u,Calls prog 194 #[] u λe w'=>e= .returned (.agg (lM zcx).toArray)/\Bw u w'):=kA (λu=>zmC u);obtain⟨hs,Jf⟩:∃hs,hs=P.1:=⟨_,rfl⟩;obtain⟨pb,zU⟩:∃pb,pb=zcl P.1 0:=⟨_,rfl⟩;obtain⟨hb,Xk⟩:∃hb,hb=zcl P.1 4:=⟨_,rfl⟩;have Jg:Hid (∀u a,Row u a 1 [0]->Calls prog 195 #[.int .i64 hs,.slice a 1 1] u λe w'=>e= .returned (.bool pb)/\u=w'):=kA (λu a r=>by rw[zU,Jf,<-hasX];exact zf4 _ a 1 1 [0] u r);have Rv:Hid (∀u a,Row u a 1 [4]->Calls prog 195 #[.int .i64 hs,.slice a 1 1] u λe w'=>e= .returned (.bool hb)/\u=w'):=kA (λu a r=>by rw[Xk,Jf,<-hasX];exact zf4 _ a 1 1 [4] u r);rw[<-zU,<-Xk]at hN;have ko:Hid (PXs (pl P)):=kA ⟨zcu _,zaJ _,zbL _,zc8 _⟩;obtain⟨M,hM⟩:∃M,M=P.2.1:=⟨_,rfl⟩;rw[<-hM]at hN;have Y6:Hid (∀W gg,Blk W gg 52 (pl P).toArray->W.cell? ⟨gg,0,none⟩=some (.int .i64 hs)/\W.rangeAt gg 1 (lM M)):=kA (λW gg k=>⟨by rw[Jf];exact k.cell 0,by rw[hM];exact zaF k 1 12⟩);have dn:=kA (zjX M);obtain⟨XP,KS⟩:∃XP,XP=pl P:=⟨_,rfl⟩;rw[<-KS]at Db ko Y6;have HN:=kA hN;have HZ:=kA (zji n0d);have Qk:=kA zsb;have Jh:Hid (∀W,(Instr.build 205 #[(0,.int .i64 id),(1,.int .i64 (-1)),(2,.agg (lM zcx).toArray),(3,.bool hb)]).run prog W= .ok (.agg (cNd ⟨id,-1,zcx,hb⟩).toArray) W):=kA (zrG id (-1) zcx hb);have kN:=kA (zji ⟨id,-1,zcx,hb⟩);have Ji:Hid (∀n,NXs (cNd n) 205):=kA zji;have KZ:=kA (Blk.new w 205 (cNd n0d).toArray);have Ha:Hid (Bw w (w.alloc (.cells (cNd n0d).toArray 205))):=kA (zaa _ _);obtain⟨XS,Ze⟩:∃XS,XS=lM zcx:=⟨_,rfl⟩;rw[<-Ze]at xU Jh;have NL:=kA Ze;obtain⟨X1,cu⟩:∃X1,X1=cNd ⟨id,-1,zcx,hb⟩:=⟨_,rfl⟩;rw[<-cu]at Jh kN;have Vq:=kA cu;obtain⟨ML,Vr⟩:∃ML,ML=lM M:=⟨_,rfl⟩;rw[<-Vr]at Y6 dn;have yr:=kA Vr;clear xh hC hF hid h0 hW hB hP H8 hN ho Zp X7 xj Jf zU Xk hM KS Ze cu Vr;go_enter func128,ntmps128;go_upto_region 1 with fail;refine fin (λW=>Blk W w.heap.size 205 (cNd n0d).toArray/\Bw w W) ⟨KZ,Ha⟩ ?_;clear KZ Ha;obtain⟨XZ,CP⟩:∃XZ,XZ=cNd n0d:=⟨_,rfl⟩;rw[<-CP]at HZ Qk;rintro W ⟨kz,Ht⟩;rw[<-CP]at kz;have Yn:=kA CP;have KZ:=kA kz;have HB:=kA Ht;clear kz Ht CP;go_wp2_with fail;refine (Db W HB).mono ?_;rintro e w1 ⟨rfl,b1⟩;have z4:w.heap.size<w1.heap.size:=Nat.lt_of_lt_of_le KZ.lt b1.size;replace KZ:=kA (KZ.keep b1);replace HB:=kA (zad HB b1);have Hf:Bw w1 (w1.alloc (.cells Z24.toArray 52)):=zaa _ _;have H9:Bw w1 ((w1.alloc (.cells Z24.toArray 52)).setCells w1.heap.size 0 XP):=zab XP Hf (Nat.le_refl _);have Ql:Hid ((w1.alloc (.cells Z24.toArray 52)).there w1.heap.size 0 XP.toArray.size):=kA (zae (Blk.new w1 _ _) (by rw[size_toArray,ko.1];exact Nat.le_refl 24));have Qm:Hid (Blk ((w1.alloc (.cells Z24.toArray 52)).setCells w1.heap.size 0 XP) w1.heap.size 52 XP.toArray/\Blk ((w1.alloc (.cells Z24.toArray 52)).setCells w1.heap.size 0 XP) w.heap.size 205 XZ.toArray/\Bw w ((w1.alloc (.cells Z24.toArray 52)).setCells w1.heap.size 0 XP)):=kA ⟨zal (Blk.new w1 _ _) (by rw[ko.1];rfl),KZ.keep H9,zad HB H9⟩;clear b1 Hf H9 Db;go_upto_region 2 with (refine wpList_store_mid rfl 52 (.tmp 6) (.tmp 15) rfl w1.heap.size 0 XP.toArray rfl rfl Ql ko.2.2.1 ko.2.2.2 ?_);refine fin (λW=>Blk W w1.heap.size 52 XP.toArray/\Blk W w.heap.size 205 XZ.toArray/\Bw w W) Qm ?_;clear Qm Ql KZ HB;obtain⟨g6,DZ⟩:∃g6,g6=w1.heap.size:=⟨_,rfl⟩;rw[<-DZ]at z4 ⊢;rintro W2 ⟨k6,k4,Ht⟩;have K6:=kA k6;have K4:=kA k4;have HB:=kA Ht;clear k6 k4 Ht DZ
 cases ok with
 | false=>
  have KH:Hid (zaS X id=n0d):=kA (by rw[HN.out];rfl);have Ka:Hid (W2.there w.heap.size 0 XZ.toArray.size):=kA (zae K4 (by rw[size_toArray];omega));have L4:Hid (Blk (W2.setCells w.heap.size 0 XZ) w.heap.size 205 XZ.toArray):=kA (zal K4 rfl);go_wp2_with (first | refine zlE rfl 205 rfl (.agg XZ.toArray) Qk ?_ | refine wpList_store_mid rfl 205 (.tmp 4) (.tmp 19) rfl w.heap.size 0 XZ.toArray rfl rfl Ka HZ.sizea HZ.onea ?_)
  refine fin (λW=>Blk W w.heap.size 205 XZ.toArray/\Bw w W) ⟨L4,zab _ HB (Nat.le_refl _)⟩ ?_;rintro W3 ⟨kr,Ht⟩;have hl:=run_loadVar_mid W3 w.heap.size 0 205 XZ _ (zac kr) underlying205 rfl HZ.size
  try simp only[Go.Act.put,setIfInBounds_toArray,set_cons_zero,set_cons_succ]
  exact bodyPost_ret (v:= .tuple #[.agg XZ.toArray,.bool false]) (zan results128 rfl rfl hl) rfl ⟨XZ,rfl,by rw[KH.out,Yn.out],Ht⟩
 | true=>
  have Rw:∀W,Bw W2 W->W.cell? ⟨g6,0,none⟩=some (.int .i64 hs):=λW q=>(Y6 W g6 (K6.keep q)).1;go_upto_region 4 with fail;refine zux (id:=id) (hs:=hs) (hb:=hb) (XS:=XS) (X1:=X1) (g6:=g6) (λ_ _ d _ _ h=>by cases d <;> exact h) Rw xU Rv Jh kN ?_
  intro W3 a8 a4 KO k8 h8;have Cn:Hid (g6<a8):=kA (Nat.lt_of_lt_of_le K6.lt h8);have cA:Hid (w.heap.size<a8):=kA (Nat.lt_of_lt_of_le K4.lt h8);replace K6:=kA (K6.keep KO);replace K4:=kA (K4.keep KO);replace HB:=kA (zad HB KO);rw[Vq.out]at k8;have K8:=kA k8;clear Rw KO k8 h8 xU Rv Jh;obtain⟨g8,Xu⟩:∃g8,g8=a8:=⟨_,rfl⟩;rw[<-Xu]at K8 Cn cA ⊢;clear Xu;go_wp2_with fail;refine (Dz W3 HB).mono ?_;rintro e w4 ⟨rfl,b4⟩;replace K8:=kA (K8.keep b4);replace K6:=kA (K6.keep b4);replace K4:=kA (K4.keep b4);replace HB:=kA (zad HB b4);clear b4 Dz;rcases Vp.out with ⟨rfl,xj⟩ | ⟨rfl,xj⟩
  ·have Yo:Hid (Blk w4 g8 205 (cNd ⟨id,up,zcx,hb⟩).toArray/\Blk w4 g6 52 XP.toArray/\Blk w4 w.heap.size 205 XZ.toArray/\Bw w w4):=kA ⟨by rw[xj];exact K8.out,K6.out,K4.out,HB⟩;clear Vp xj;go_upto_region 8 with fail;refine fin (λW=>Blk W g8 205 (cNd ⟨id,up,zcx,hb⟩).toArray/\Blk W g6 52 XP.toArray/\Blk W w.heap.size 205 XZ.toArray/\Bw w W) Yo ?_;clear Yo K8 K6 K4 HB;rintro W5 ⟨k8,k6,k4,Ht⟩;have dE:=kA (zaa W5 (.cells #[.int .i64 0] 244));have K8:=kA (k8.keep dE);have K6:=kA (k6.keep dE);have K4:=kA (k4.keep dE);have HB:=kA (zad Ht dE);obtain⟨c6,-⟩:=Y6.out _ g6 k6;have z6:=k6.lt;have z8:=k8.lt;clear k8 k6 k4 Ht dE;go_wp2_with fail;refine (Jg _ _ (znY _ _ _)).mono ?_;rintro e w5 ⟨rfl,rfl⟩;clear Jg c6 z6 z8;refine fin (λW=>Blk W g8 205 (cNd ⟨id,up,zcx,hb⟩).toArray/\Blk W g6 52 XP.toArray/\Blk W w.heap.size 205 XZ.toArray/\Bw w W) ⟨K8,K6.out,K4.out,HB⟩ ?_;clear K8 K6 K4 HB;rintro W6 ⟨k8,k6,k4,Ht⟩;have K8:=kA k8;have K6:=kA k6;have K4:=kA k4;have HB:=kA Ht;clear k8 k6 k4 Ht;obtain⟨-,r6⟩:=Y6.out _ g6 K6;have Y7:=kA r6;have z6:=K6.lt;have z8:=K8.lt;clear r6
   cases pb with
   | false=>
    go_upto_region 10 with fail;have KH:Hid (zaS X id=⟨id,up,zcx,hb⟩):=kA (by rw[HN.out];rfl);obtain⟨X2,dp⟩:∃X2,X2=cNd ⟨id,up,zcx,hb⟩:=⟨_,rfl⟩;have Kc:=kA (Ji ⟨id,up,zcx,hb⟩);have k8:=K8.out;rw[<-dp]at Kc k8;have cB:=kA dp;clear dp;have Y8:=kA (zac k8);have Ka:Hid (W6.there w.heap.size 0 X2.toArray.size):=kA (zae K4 (by rw[size_toArray,Kc.len,HZ.len];omega));have L4:Hid (Blk (W6.setCells w.heap.size 0 X2) w.heap.size 205 X2.toArray):=kA (zal K4 (by rw[Kc.len,HZ.len]));have Ke:=kA HB.out;clear k8 K8 K4 HB K6;go_wp2_with (first | refine wpList_load_mid rfl 205 (.tmp 8) rfl g8 0 rfl X2 _ Y8 underlying205 rfl Kc.size ?_ | refine wpList_store_mid rfl 205 (.tmp 4) (.tmp 43) rfl w.heap.size 0 X2.toArray rfl rfl Ka Kc.sizea Kc.onea ?_)
    refine fin (λW=>Blk W w.heap.size 205 X2.toArray/\Bw w W) ⟨L4,zab _ Ke (Nat.le_refl _)⟩ ?_;rintro W3 ⟨kr,Ht⟩;have hl:=run_loadVar_mid W3 w.heap.size 0 205 X2 _ (zac kr) underlying205 rfl Kc.size
    try simp only[Go.Act.put,setIfInBounds_toArray,set_cons_zero,set_cons_succ]
    exact bodyPost_ret (v:= .tuple #[.agg X2.toArray,.bool true]) (zan results128 rfl rfl hl) rfl ⟨X2,rfl,by rw[KH.out,cB.out],Ht⟩
   | true=>
    have Qn:Hid (W6.there g8 2 ML.toArray.size):=kA (zae K8 (by rw[size_toArray,dn.len,zfq];omega))
    have Yp:Hid (Blk (W6.setCells g8 2 ML) g8 205 (cNd ⟨id,up,M,hb⟩).toArray/\Blk (W6.setCells g8 2 ML) g6 52 XP.toArray/\Blk (W6.setCells g8 2 ML) w.heap.size 205 XZ.toArray/\Bw w (W6.setCells g8 2 ML)):=kA ⟨by
     have:=zaf ML (o:=2) K8 (by rw[dn.len,zfq];omega);rw[yr.out,zyT]at this;rw[yr.out]
     exact this,zat ML K6 (by have:=Cn.out;omega),zat ML K4 (by have:=cA.out;omega),zab ML HB (by have:=cA.out;exact Nat.le_of_lt this)⟩
    go_upto_region 10 with (first | refine wpList_load_mid rfl 46 (.tmp 40) rfl g6 1 rfl ML _ Y7 underlying46 rfl dn.size ?_ | refine wpList_store_mid rfl 46 (.tmp 42) (.tmp 41) rfl g8 2 ML.toArray rfl rfl Qn dn.sizea dn.onea ?_)
    refine fin (λW=>Blk W g8 205 (cNd ⟨id,up,M,hb⟩).toArray/\Blk W g6 52 XP.toArray/\Blk W w.heap.size 205 XZ.toArray/\Bw w W) Yp ?_;clear Yp Qn K8 K6 K4 HB Y7 z6 z8;rintro W7 ⟨k8,k6,k4,Ht⟩;have K8:=kA k8;have K6:=kA k6;have K4:=kA k4;have HB:=kA Ht;have z8:=K8.lt;clear k8 k6 k4 Ht;have KH:Hid (zaS X id=⟨id,up,M,hb⟩):=kA (by rw[HN.out];rfl);obtain⟨X2,dp⟩:∃X2,X2=cNd ⟨id,up,M,hb⟩:=⟨_,rfl⟩;have Kc:=kA (Ji ⟨id,up,M,hb⟩);have k8:=K8.out;rw[<-dp]at Kc k8;have cB:=kA dp;clear dp;have Y8:=kA (zac k8);have Ka:Hid (W7.there w.heap.size 0 X2.toArray.size):=kA (zae K4 (by rw[size_toArray,Kc.len,HZ.len];omega));have L4:Hid (Blk (W7.setCells w.heap.size 0 X2) w.heap.size 205 X2.toArray):=kA (zal K4 (by rw[Kc.len,HZ.len]));have Ke:=kA HB.out;clear k8 K8 K4 HB K6;go_wp2_with (first | refine wpList_load_mid rfl 205 (.tmp 8) rfl g8 0 rfl X2 _ Y8 underlying205 rfl Kc.size ?_ | refine wpList_store_mid rfl 205 (.tmp 4) (.tmp 43) rfl w.heap.size 0 X2.toArray rfl rfl Ka Kc.sizea Kc.onea ?_)
    refine fin (λW=>Blk W w.heap.size 205 X2.toArray/\Bw w W) ⟨L4,zab _ Ke (Nat.le_refl _)⟩ ?_;rintro W3 ⟨kr,Ht⟩;have hl:=run_loadVar_mid W3 w.heap.size 0 205 X2 _ (zac kr) underlying205 rfl Kc.size
    try simp only[Go.Act.put,setIfInBounds_toArray,set_cons_zero,set_cons_succ]
    exact bodyPost_ret (v:= .tuple #[.agg X2.toArray,.bool true]) (zan results128 rfl rfl hl) rfl ⟨X2,rfl,by rw[KH.out,cB.out],Ht⟩
  ·have c1:=K8.cell 1;have f1:=K8.frozen 1;have z8:=K8.lt;have Yo:Hid (Blk (w4.setCell ⟨g8,1,none⟩ (.int .i64 pv)) g8 205 (cNd ⟨id,up,zcx,hb⟩).toArray/\Blk (w4.setCell ⟨g8,1,none⟩ (.int .i64 pv)) g6 52 XP.toArray/\Blk (w4.setCell ⟨g8,1,none⟩ (.int .i64 pv)) w.heap.size 205 XZ.toArray/\Bw w (w4.setCell ⟨g8,1,none⟩ (.int .i64 pv))):=kA ⟨by have:=K8.set_ 1 (.int .i64 pv);rw[zyS]at this;rw[xj];exact this,K6.same (Go.Deep.blk_setCell_other _ _ _ _ (by show g6≠g8;have:=Cn.out;omega)),K4.same (Go.Deep.blk_setCell_other _ _ _ _ (by show w.heap.size≠g8;have:=cA.out;omega)),HB.setCell (p:=⟨g8,1,none⟩) (by have:=cA.out;exact Nat.le_of_lt this) _⟩;clear Vp xj;go_upto_region 8 with fail;clear c1 f1 z8;refine fin (λW=>Blk W g8 205 (cNd ⟨id,up,zcx,hb⟩).toArray/\Blk W g6 52 XP.toArray/\Blk W w.heap.size 205 XZ.toArray/\Bw w W) Yo ?_;clear Yo K8 K6 K4 HB;rintro W5 ⟨k8,k6,k4,Ht⟩;have dE:=kA (zaa W5 (.cells #[.int .i64 0] 244));have K8:=kA (k8.keep dE);have K6:=kA (k6.keep dE);have K4:=kA (k4.keep dE);have HB:=kA (zad Ht dE);obtain⟨c6,-⟩:=Y6.out _ g6 k6;have z6:=k6.lt;have z8:=k8.lt;clear k8 k6 k4 Ht dE;go_wp2_with fail;refine (Jg _ _ (znY _ _ _)).mono ?_;rintro e w5 ⟨rfl,rfl⟩;clear Jg c6 z6 z8;refine fin (λW=>Blk W g8 205 (cNd ⟨id,up,zcx,hb⟩).toArray/\Blk W g6 52 XP.toArray/\Blk W w.heap.size 205 XZ.toArray/\Bw w W) ⟨K8,K6.out,K4.out,HB⟩ ?_;clear K8 K6 K4 HB;rintro W6 ⟨k8,k6,k4,Ht⟩;have K8:=kA k8;have K6:=kA k6;have K4:=kA k4;have HB:=kA Ht;clear k8 k6 k4 Ht;obtain⟨-,r6⟩:=Y6.out _ g6 K6;have Y7:=kA r6;have z6:=K6.lt;have z8:=K8.lt;clear r6
   cases pb with
   | false=>
    go_upto_region 10 with fail;have KH:Hid (zaS X id=⟨id,up,zcx,hb⟩):=kA (by rw[HN.out];rfl);obtain⟨X2,dp⟩:∃X2,X2=cNd ⟨id,up,zcx,hb⟩:=⟨_,rfl⟩;have Kc:=kA (Ji ⟨id,up,zcx,hb⟩);have k8:=K8.out;rw[<-dp]at Kc k8;have cB:=kA dp;clear dp;have Y8:=kA (zac k8);have Ka:Hid (W6.there w.heap.size 0 X2.toArray.size):=kA (zae K4 (by rw[size_toArray,Kc.len,HZ.len];omega));have L4:Hid (Blk (W6.setCells w.heap.size 0 X2) w.heap.size 205 X2.toArray):=kA (zal K4 (by rw[Kc.len,HZ.len]));have Ke:=kA HB.out;clear k8 K8 K4 HB K6;go_wp2_with (first | refine wpList_load_mid rfl 205 (.tmp 8) rfl g8 0 rfl X2 _ Y8 underlying205 rfl Kc.size ?_ | refine wpList_store_mid rfl 205 (.tmp 4) (.tmp 43) rfl w.heap.size 0 X2.toArray rfl rfl Ka Kc.sizea Kc.onea ?_)
    refine fin (λW=>Blk W w.heap.size 205 X2.toArray/\Bw w W) ⟨L4,zab _ Ke (Nat.le_refl _)⟩ ?_;rintro W3 ⟨kr,Ht⟩;have hl:=run_loadVar_mid W3 w.heap.size 0 205 X2 _ (zac kr) underlying205 rfl Kc.size
    try simp only[Go.Act.put,setIfInBounds_toArray,set_cons_zero,set_cons_succ]
    exact bodyPost_ret (v:= .tuple #[.agg X2.toArray,.bool true]) (zan results128 rfl rfl hl) rfl ⟨X2,rfl,by rw[KH.out,cB.out],Ht⟩
   | true=>
    have Qn:Hid (W6.there g8 2 ML.toArray.size):=kA (zae K8 (by rw[size_toArray,dn.len,zfq];omega))
    have Yp:Hid (Blk (W6.setCells g8 2 ML) g8 205 (cNd ⟨id,up,M,hb⟩).toArray/\Blk (W6.setCells g8 2 ML) g6 52 XP.toArray/\Blk (W6.setCells g8 2 ML) w.heap.size 205 XZ.toArray/\Bw w (W6.setCells g8 2 ML)):=kA ⟨by
     have:=zaf ML (o:=2) K8 (by rw[dn.len,zfq];omega);rw[yr.out,zyT]at this;rw[yr.out]
     exact this,zat ML K6 (by have:=Cn.out;omega),zat ML K4 (by have:=cA.out;omega),zab ML HB (by have:=cA.out;exact Nat.le_of_lt this)⟩
    go_upto_region 10 with (first | refine wpList_load_mid rfl 46 (.tmp 40) rfl g6 1 rfl ML _ Y7 underlying46 rfl dn.size ?_ | refine wpList_store_mid rfl 46 (.tmp 42) (.tmp 41) rfl g8 2 ML.toArray rfl rfl Qn dn.sizea dn.onea ?_)
    refine fin (λW=>Blk W g8 205 (cNd ⟨id,up,M,hb⟩).toArray/\Blk W g6 52 XP.toArray/\Blk W w.heap.size 205 XZ.toArray/\Bw w W) Yp ?_;clear Yp Qn K8 K6 K4 HB Y7 z6 z8;rintro W7 ⟨k8,k6,k4,Ht⟩;have K8:=kA k8;have K6:=kA k6;have K4:=kA k4;have HB:=kA Ht;have z8:=K8.lt;clear k8 k6 k4 Ht;have KH:Hid (zaS X id=⟨id,up,M,hb⟩):=kA (by rw[HN.out];rfl);obtain⟨X2,dp⟩:∃X2,X2=cNd ⟨id,up,M,hb⟩:=⟨_,rfl⟩;have Kc:=kA (Ji ⟨id,up,M,hb⟩);have k8:=K8.out;rw[<-dp]at Kc k8;have cB:=kA dp;clear dp;have Y8:=kA (zac k8);have Ka:Hid (W7.there w.heap.size 0 X2.toArray.size):=kA (zae K4 (by rw[size_toArray,Kc.len,HZ.len];omega));have L4:Hid (Blk (W7.setCells w.heap.size 0 X2) w.heap.size 205 X2.toArray):=kA (zal K4 (by rw[Kc.len,HZ.len]));have Ke:=kA HB.out;clear k8 K8 K4 HB K6;go_wp2_with (first | refine wpList_load_mid rfl 205 (.tmp 8) rfl g8 0 rfl X2 _ Y8 underlying205 rfl Kc.size ?_ | refine wpList_store_mid rfl 205 (.tmp 4) (.tmp 43) rfl w.heap.size 0 X2.toArray rfl rfl Ka Kc.sizea Kc.onea ?_)
    refine fin (λW=>Blk W w.heap.size 205 X2.toArray/\Bw w W) ⟨L4,zab _ Ke (Nat.le_refl _)⟩ ?_;rintro W3 ⟨kr,Ht⟩;have hl:=run_loadVar_mid W3 w.heap.size 0 205 X2 _ (zac kr) underlying205 rfl Kc.size
    try simp only[Go.Act.put,setIfInBounds_toArray,set_cons_zero,set_cons_succ]
    exact bodyPost_ret (v:= .tuple #[.agg X2.toArray,.bool true]) (zan results128 rfl rfl hl) rfl ⟨X2,rfl,by rw[KH.out,cB.out],Ht⟩
end
structure XN:Prop where
 spawn:∀w:World,Calls prog 28 #[.pointer none,.agg Z24.toArray,.int .i64 (-1)] w λe w'=>∃v,e= .returned (.tuple #[.int .i64 v,.int .i64 1])/\Bw w w'
 get:∀w:World,Calls prog 136 #[.pointer none,.int .i64 0] w λe w'=>∃Y,e= .returned (.tuple #[.agg (toArray Y),.bool false])/\PXs Y/\Bw w w'
 parent:∀w:World,Calls prog 196 #[.pointer none,.int .i64 0] w λe w'=>∃v,e= .returned (.tuple #[.int .i64 v,.bool false])/\Bw w w'
 node:∀w:World,Calls prog 128 #[.pointer none,.int .i64 0] w λe w'=>∃Y,e= .returned (.tuple #[.agg (toArray Y),.bool false])/\NXs Y 205/\Bw w w'
 despawn:∀w:World,Calls prog 29 #[.pointer none,.int .i64 0] w λe w'=>e= .returned (.int .i64 1)/\Bw w w'
 put:∀w:World,Calls prog 47 #[.pointer none,.int .i64 0,.agg Z24.toArray,.slice none 0 0] w λe w'=>e= .returned (.int .i64 1)/\Bw w w'
 cut:∀w:World,Calls prog 48 #[.pointer none,.int .i64 0,.slice none 0 0] w λe w'=>e= .returned (.int .i64 1)/\Bw w w'
 adopt:∀w:World,Calls prog 49 #[.pointer none,.int .i64 0,.int .i64 1] w λe w'=>e= .returned (.int .i64 1)/\Bw w w'
 free:∀w:World,Calls prog 50 #[.pointer none,.int .i64 0] w λe w'=>e= .returned (.int .i64 1)/\Bw w w'
 all:∀w:World,Calls prog 44 #[.pointer none] w λe w'=>∃a cap,e= .returned (.slice a 0 cap)/\Bw w w'
 changed:∀w:World,Calls prog 127 #[.pointer none,.int .i64 0] w λe w'=>∃a cap,e= .returned (.slice a 0 cap)/\Bw w w'
 gone:∀w:World,Calls prog 68 #[.pointer none,.int .i64 0] w λe w'=>∃a cap,e= .returned (.slice a 0 cap)/\Bw w w'
 tick:∀w:World,Calls prog 16 #[.pointer none] w λe w'=>e= .returned (.int .i64 0)/\Bw w w'
 next:∀w:World,Calls prog 33 #[.pointer none] w λe w'=>e= .returned (.int .i64 0)/\Bw w w'
theorem scx_holds:SCx LSB:=
 ⟨λ_ _ _ _ _ ⟨ls,lt,⟨p,mb,ts,Lf,gv,lab,h,hF⟩,hI⟩ he=>⟨ls,lt,⟨p,mb,ts,Lf,gv,lab,h.same (λb hb=>he b ((hF b).2 hb)),hF⟩,hI⟩,
  λ_ _ _ _ ⟨_,_,⟨_,_,_,_,_,_,h,hF⟩,_⟩ b hb=>h.inb b ((hF b).1 hb),
  λw r hr=>zuA w r hr,λw x hx=>zuB w x hx,λ_ _ _ _ P hW hB h=>zoN h hW hB P,λ_ _ _ _ id hW hB h=>zkC h hW hB id,
  λ_ _ _ _ id P a n cap ks hW hB h _ row _=>zum h hW hB id P a n cap ks row,λ_ _ _ _ id a n cap ks hW hB h _ row _=>zun h hW hB id a n cap ks row,
  λ_ _ _ _ a n cap xs _ _ h hn row Kt=>zia h a n cap xs hn row Kt,λ_ _ _ _ id hW hB h=>znM h hW hB id,λ_ _ _ _ hW _ h=>zr8 h hW,
  λ_ _ _ _ _ _ h=>zrW h,λ_ _ _ _ _ hB h=>zrX h hB,λ_ _ _ _ since hW _ h=>zkD h hW since,λ_ _ _ _ since _ hB h=>zr7 h hB since⟩
theorem fcx_holds:FCx LFB where
 keep_ _ _ _ _ _ h he:=h.keep_ he
 inb _ _ _ _ h:=h.inb
 rng _ _ _ _ h:=by
  obtain⟨gp,gc,bl,cp,h1,_⟩:=h;exact h1.rng
 new w:=zka w
 set _ _ _ _ _ _ hW hL h hc hp:=znd h hW hL hc hp
 free _ _ _ _ _ _ _ _ hW hL h hn hr ha hx:=zj9 h hW hL hn hr ha hx
 drop _ _ _ _ _ hW hL h hx:=zrb h hW hL hx
 parent _ _ _ _ _ _ _ h hx:=by
  obtain⟨gp,gc,bl,cp,h1,_⟩:=h;exact (zep h1 hx).mono λ_ _ q=>⟨q.1,q.2 ▸ Below.refl _ _⟩
theorem sl_holds:SL LSB:=by
 rintro w g F S ⟨ls,lt,⟨p,mb,ts,Lf,gv,lab,h,hF⟩,hI⟩;refine⟨p,λu q=> ?_⟩;have h1:=h.keep q;refine⟨?_,h1.row.lt,λx=>zuc p S.room S.G S.L x u h1.pool⟩;exact h1.row.cell (i:=0) om
theorem xc_holds:XC (LXB LSB LFB) where
 kb:=zkv scx_holds.kb fcx_holds.kb
 new w r hr:=zoS scx_holds fcx_holds w r hr
 bad w x hx:=zoT scx_holds w x hx
 spawn _ _ _ _ P p hW hB h hp:=zkI scx_holds fcx_holds sl_holds h hW hB P p hp
 despawn _ _ _ _ id hW hB h hi:=zhE scx_holds fcx_holds h hW hB id hi
 put _ _ _ _ id P a n cap ks hW hB h hn row Kt:=zoW scx_holds fcx_holds h hW hB id P a n cap ks hn row Kt
 cut _ _ _ _ id a n cap ks hW hB h hn row Kt:=zoV scx_holds fcx_holds h hW hB id a n cap ks hn row Kt
 adopt _ _ _ _ c p hW hB h hc hp:=zkJ scx_holds fcx_holds sl_holds h hW hB c p hc hp
 free _ _ _ _ c hW hB h hc:=zmb scx_holds fcx_holds sl_holds h hW hB c hc
 get _ _ _ _ id hW hB h:=zig scx_holds fcx_holds h hW hB id
 parent _ _ _ _ id hW hB h hi:=zfb scx_holds fcx_holds h hW hB id hi
 all _ _ _ _ hW hB h:=zoU scx_holds fcx_holds h hW hB
 tick _ _ _ _ hW hB h:=zmd scx_holds fcx_holds h hW hB
 next _ _ _ _ hW hB h:=zme scx_holds fcx_holds h hW hB
 changed _ _ _ _ since hW hB h:=zhF scx_holds fcx_holds h hW hB since
 gone _ _ _ _ since hW hB h:=zmc scx_holds fcx_holds h hW hB since
 node _ _ _ _ id hW hB h hi:=zmg scx_holds fcx_holds h hW hB id hi
end Go.Proofs.YtlibdcmcbinfnaaGreat
