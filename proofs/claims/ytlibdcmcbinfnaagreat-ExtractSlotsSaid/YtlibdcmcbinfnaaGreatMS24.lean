/- Lemmas. -/
import Derived.Test.YtlibdcmcbinfnaaGreatMS23
import Derived.Laws.IdiomCopy
set_option maxHeartbeats 100000000
set_option maxRecDepth 1000000
namespace Go.Proofs.YtlibdcmcbinfnaaGreat
open _root_.Go.Proofs.Tryz List Nat
open Go.RowKit
section
variable {α:Type} {key:α->Int}
structure Mrg (key:α->Int) (bs q a:Nat) (Y:List α):Prop where
 at_:a=q*(2*bs)
 done:∀p,p<q->AscIn key Y (p*(2*bs)) (p*(2*bs)+2*bs)
 todo:∀p,2*q<=p->AscIn key Y (p*bs) (p*bs+bs)
theorem AscIn.all{X:List α}(h:AscIn key X 0 X.length):Asc key X:=zvs λi j a b X5 ha hb=>h i j a b (zero_le _) X5 (List.getElem?_eq_some_iff.1 hb).1 ha hb
end
theorem ztU(av:Option Addr)(cap:Nat)(w:World):
  Calls prog 293 #[.slice av 0 cap,.int .i64 0,.int .i64 0,.func (.func 222) #[] #[]] w λe w'=>e= .returned (.tuple #[])/\w=w':=by
 go_enter func293,ntmps293;go_wp2;refine wp_loop_rounds 1 ?_;rw[rounds_succ];go_wp2;go_end0;exact⟨rfl,rfl⟩
theorem ztV(av:Option Addr)(cap:Nat)(w:World):
  Calls prog 266 #[.slice av 0 cap,.int .i64 0,.func (.func 222) #[] #[]] w λe w'=>e= .returned (.tuple #[])/\w=w':=by
 have HI:=kA (ztU av cap w);go_enter func266,ntmps266;go_wp2;refine wp_loop_rounds 1 ?_;rw[rounds_succ];go_wp2_with fail;refine HI.mono ?_;rintro e w1 ⟨rfl,rfl⟩;go_wp2;refine wp_loop_rounds 1 ?_;rw[rounds_succ];go_wp2;go_end0;exact⟨rfl,rfl⟩
theorem zrq(av:Option Addr)(cap:Nat)(w:World):
  Calls prog 221 #[.slice av 0 cap,.func (.func 222) #[] #[]] w λe w'=>e= .returned (.tuple #[])/\w=w':=by
 have HS:=kA (ztV av cap w);go_enter func221,ntmps221;go_wp2_with fail;refine HS.mono ?_;rintro e w1 ⟨rfl,rfl⟩;go_wp2;go_end0;exact⟨rfl,rfl⟩
theorem ztW(av:Option Addr)(cap:Nat)(w:World):
  Calls prog 220 #[.slice av 0 cap] w λe w'=>e= .returned (.tuple #[])/\w=w':=by
 go_enter func220,ntmps220;go_wp2;refine wp_loop_rounds 1 ?_;rw[rounds_succ];go_wp2;go_end0;exact⟨rfl,rfl⟩
def zdp(L:List Rc):Prop:=L.Pairwise (λa b=>a.id<b.id)
def look(k:Int)(L:List Rc):Option Rc:=L.find? (λx=>x.id==k)
theorem ztX{A B:List Rc}(h:Fil Rc.id A B)(k:Int):look k B=look k A:=by
 unfold look;rw[<-head?_filter,<-head?_filter,h k]
theorem zcT(k:Int)(A B:List Rc):look k (A++B)=(look k A).or (look k B):=by
 unfold look;rw[find?_append]
variable{k:Int}{L X:List Rc}{x:Rc}{e:TypeId}
theorem zeZ(h:look k L=some x):x∈L/\x.id=k:=⟨mem_of_find?_eq_some h,by have:=find?_some h;simpa using this⟩
theorem ze0(h:∀x∈L,x.id≠k):look k L=none:=by
 unfold look;rw[find?_eq_none];intro x hx;simpa using h x hx
theorem zhd(h:x∈L)(hk:x.id=k):∃y,look k L=some y:=by
 cases e:look k L with
 | some y=>exact⟨y,rfl⟩
 | none=>
  unfold look at e;rw[find?_eq_none]at e;have:=e x h;rw[hk]at this;simp at this
theorem zbk(k:Int)(a:Rc)(L:List Rc):look k (a::L)=if a.id=k then some a else look k L:=by
 unfold look;rw[find?_cons]
 by_cases h:a.id=k
 ·rw[if_pos h,beq_iff_eq.2 h]
 ·rw[if_neg h,beq_eq_false_iff_ne.2 h]
theorem zci{a:Rc} :zdp (a::L)↔(∀x∈L,a.id<x.id)/\zdp L:=pairwise_cons
theorem znr:∀ {A B:List Rc},zdp A->zdp B->(∀k,look k A=look k B)->A=B
 | [],[],_,_,_=>rfl
 | [],b::B,_,_,h=>by
  have:=h b.id;rw[zbk,if_pos rfl]at this
  cases this
 | a::A,[],_,_,h=>by
  have:=h a.id;rw[zbk,if_pos rfl]at this
  cases this
 | a::A,b::B,hA,hB,h=>by
  obtain⟨a1,a2⟩:=zci.1 hA;obtain⟨b1,b2⟩:=zci.1 hB;have e1:=h a.id;have e2:=h b.id;rw[zbk,if_pos rfl]at e1;rw[zbk b.id b,if_pos rfl]at e2;have m1:=zeZ e1.symm;have m2:=zeZ e2;have l1:b.id<=a.id:=by
   rcases mem_cons.1 m1.1 with e | e
   ·rw[e];exact Int.le_refl _
   ·exact Int.le_of_lt (b1 a e)
  have l2:a.id<=b.id:=by
   rcases mem_cons.1 m2.1 with e | e
   ·rw[e];exact Int.le_refl _
   ·exact Int.le_of_lt (a1 b e)
  have ei:a.id=b.id:=om;have eab:a=b:=by
   rw[zbk,if_pos ei.symm]at e1;injection e1
  subst eab;congr 1;refine znr a2 b2 λk=> ?_;have e3:=h k;rw[zbk,zbk]at e3
  by_cases hk:a.id=k
  ·rw[ze0 (λx hx=>by have:=a1 x hx;omega),ze0 (λx hx=>by have:=b1 x hx;omega)]
  ·rw[if_neg hk,if_neg hk]at e3;exact e3
def zfQ(X:List Rc)(t:Nat):Bool:=match X[t]? with
 | none=>false
 | some x=>match X[t - 1]? with
  | none=>true
  | some y=>decide (t=0) || !(x.id==y.id)
def zbc(X:List Rc):Nat->List Rc
 | 0=>[]
 | t+1=>zbc X t++(if zfQ X t then (X[t]?).toList else [])
theorem ziY{t:Nat}{y:Rc}(hx:X[t+1]? =some x)(hy:X[t]? =some y):zfQ X (t+1)= !(x.id==y.id):=by
 unfold zfQ;rw[hx,Nat.add_sub_cancel,hy];simp
theorem zkn(hx:X[0]? =some x):zfQ X 0=true:=by
 unfold zfQ;rw[hx];simp
theorem ziZ(X:List Rc):∀t,t<=X.length->(zbc X t).length<=t
 | 0,_=>Nat.le_refl _
 | t+1,h=>by
  have:=ziZ X t om;unfold zbc;rw[length_append]
  by_cases c:zfQ X t=true
  ·rw[if_pos c,getElem?_eq_getElem om];simp;omega
  ·rw[if_neg c];simp;omega
theorem zrr{X:List Rc}(hX:Asc Rc.id X):∀t,t<=X.length->zdp (zbc X t)/\(∀x∈zbc X t,x∈X.take t)/\∀k,look k (zbc X t)=look k (X.take t)
 | 0,_=>⟨List.Pairwise.nil,(by intro x hx;cases hx),(by intro k;simp[zbc])⟩
 | t+1,h=>by
  obtain⟨r,m,l⟩:=zrr hX t om;have hx:X[t]? =some X[t]:=getElem?_eq_getElem om;have et:X.take (t+1)=X.take t++[X[t]]:=by rw[take_add_one,hx];rfl
  unfold zbc
  by_cases c:zfQ X t=true
  ·rw[if_pos c,hx,et,Option.toList_some];have lt:∀x∈X.take t,x.id<(X[t]).id:=λx hm=>by
    obtain⟨i,hi⟩:=List.mem_iff_getElem?.1 hm;have hit:i<t:=by
     have:=(List.getElem?_eq_some_iff.1 hi).1;rw[length_take]at this;omega
    rw[getElem?_take,if_pos hit]at hi;obtain⟨s,rfl⟩:∃s,t=s+1:=⟨t - 1,om⟩;have hy:X[s]? =some X[s]:=getElem?_eq_getElem om;have e:=ziY hx hy;rw[c]at e;have ne:X[s+1].id≠X[s].id:=by simpa using e
    have l1:=zkh hX (show i<=s by omega) hi hy;have l2:=zkh hX (le_succ s) hy hx;omega
   refine⟨pairwise_append.2 ⟨r,pairwise_singleton _ _,λa ha b hb=> ?_⟩,λx hx'=> ?_,λk=> ?_⟩
   ·rw[mem_singleton.1 hb];exact lt a (m a ha)
   ·rcases mem_append.1 hx' with q | q
    ·exact mem_append.2 (.inl (m x q))
    ·exact mem_append.2 (.inr q)
   ·rw[zcT,zcT,l k]
  ·rw[if_neg c,append_nil];refine⟨r,λx hx'=>by rw[et];exact mem_append.2 (.inl (m x hx')),λk=> ?_⟩;rw[et,zcT,l k]
   by_cases hk:(X[t]).id=k
   ·have:∃y,look k (X.take t)=some y:=by
     rcases eq_zero_or_pos t with rfl | ht
     ·exact absurd (zkn hx) c
     ·obtain⟨s,rfl⟩:∃s,t=s+1:=⟨t - 1,om⟩;have hy:X[s]? =some X[s]:=getElem?_eq_getElem om;have e:=ziY hx hy;have e2:zfQ X (s+1)=false:=by simpa using c
      rw[e2]at e;have eq:X[s+1].id=X[s].id:=by simpa using e.symm
      refine zhd (x:=X[s]) ?_ (by rw[<-eq];exact hk);refine List.mem_iff_getElem?.2 ⟨s,?_⟩;rw[getElem?_take,if_pos om];exact hy
    obtain⟨y,hy⟩:=this;rw[hy];rfl
   ·have:look k [X[t]]=none:=ze0 (λx hx'=>by rw[mem_singleton.1 hx'];exact hk);rw[this];simp
theorem zcA:(prog.info? 92).map (λi=>(i.zero,i.size,i.bytes))=some (some (.agg (cRc zRc).toArray),12,96):=oM
section
variable {α:Type} {k:Nat} {c:α->List Value} {w w':World}
theorem zko(hc:∀x,(c x).length=k){b:Nat}:∀ (Y:List α) (off:Nat),(∀i x,Y[i]? =some x->w.rangeAt b (off+i*k) (c x))->w.rangeAt b off (Y.flatMap c)
 | [],_,_=>λj v hv=>by simp at hv
 | y::Y,off,h=>λj v hv=>by
  rw[flatMap_cons]at hv
  by_cases hj:j<k
  ·rw[getElem?_append_left (by rw[hc];exact hj)]at hv;have:=h 0 y rfl j v hv;simpa using this
  ·rw[getElem?_append_right (by rw[hc];omega),hc]at hv
   have ih:=zko hc Y (off+k) (λi x hi=>by
    have:=h (i+1) x (by simpa using hi);rw[Nat.add_mul,Nat.one_mul]at this;rw[show off+k+i*k=off+(i*k+k) by omega]
    exact this) (j - k) v hv
   rw[show off+k+(j - k)=off+j by omega]at ih;exact ih
theorem zhe{t ty:TypeId}{i:TypeInfo}{a b:Option Addr}{n cn cm:Nat}(ht:prog.underlying t=some (.slice e))(hi:prog.info? e=some i)(hn:n<=cn):
  (Builtin.append_ #[t,t] ty #[.slice a n cn,.slice b 0 cm]).run prog w= .ok (.slice a n cn) w:=by
 cases a <;> cases b <;> simp[Builtin.append_,run_underlying ht,sizeOf,typeInfo,hi,Builtin.lenOf,Builtin.firstCells,loadCells,loadCellsFrom,storeCells,hn]
theorem zbK{ops:Array Oper}{rest:List Oper}{op:Oper}{a:Go.Act}{Q:Exit->Go.Act->World->Prop}(kX:op.guard=none)(ts tb:Operand)(t:TypeId)(by_:Nat)(z:Value)
  (ho:op.op= .call { callee:= .builtin .append,args:= #[ts,tb],argTypes:= #[t,t] })(hu:prog.underlying t=some (.slice e))
  (Dw:(prog.info? e).map (λi=>(i.zero,i.size,i.bytes))=some (some z,k,by_))(Di:z.cells.size=k)(hk:0<k)(ZV:by_<=1000)(hc:∀x,(c x).length=k)(YC:∀x,∀u∈c x,u.oneCell'=true)
  {base:Nat}{v:Value}{X Y:List α}(hs:a.eval ts=v)(Hc:OwnX k c e w base v X)(av:Option Addr)(n cap:Nat)(hx:a.eval tb= .slice av n cap)(row:RowX k c w av n Y)(hX:X.length+n<=4000000)(H9:base<=w.heap.size)
  (h:∀v' w',OwnX k c e w' base v' (X++Y)->w.grownBy w' v.ownBlock->(v'.ownBlock=v.ownBlock∨v'.ownBlock=some w.heap.size)->wpList prog ops Q rest (a.put op.dst v') w'):wpList prog ops Q (op::rest) a w:=by
 obtain⟨i0,kB,kQ,kR,kH⟩:=info_parts Dw;rcases eq_zero_or_pos n with rfl | hn
 ·have hY:Y=[]:=eq_nil_of_length_eq_zero row.1;subst hY;obtain⟨a0,c0,rfl,bB,_,_⟩:=Hc.row hc;have h2:=h (.slice a0 X.length c0) w (by rw[append_nil];exact Hc) ⟨rfl,rfl,rfl,Nat.le_refl _,λ_ _ _=>rfl⟩ (.inl rfl);refine wpList_plain kX λK hK=> ?_;have h3:=hK _ _ h2;have hr:=zhe (ty:=op.type) (a:=a0) (b:=av) (cm:=cap) (w:=w) hu kB bB;unfold Oper.wp execOp;simp only[ho,resolve,invoke,builtin,Sem.run_bind,Sem.run_pure,Result.andThen_ok,map_toArray,map_cons,map_nil,hs,hx,hr];exact h3
 ·rcases row.2.2 with h0 | ⟨b,off,rfl,hb,hr⟩
  ·omega
  ·have D8:(X.length+n)*by_<=140737488355328:=by
    have:(X.length+n)*by_<=4000000*1000:=Nat.mul_le_mul hX ZV
    omega
   refine wpList_append_own_at w kX ts tb t ho base e i0 z k by_ hu kB kQ kR kH Di hk v X.length (X.flatMap c) hs Hc ⟨b,off,none⟩ n cap (Y.flatMap c) hx (by rw[zgK hc,row.1]) (λj u hj=>by
    have:=zko hc Y off hr j u hj;rw[Addr.add_mid];exact this) (λu Yx=>by
    obtain⟨x,_,hx'⟩:=mem_flatMap.1 Yx
    exact YC x u hx') (by unfold maxLen;omega) D8 H9 ?_
   intro v' w' h1 h2 _ h4;refine h v' w' ?_ h2 h4;unfold OwnX;rw[length_append,flatMap_append,row.1];exact h1
end
theorem zhC(w:World)(ty:TypeId)(b o n c:Nat)(ht:∀j,j<n*12->(w.cell? ⟨b,o+j,none⟩).isSome=true)(hf:∀j,j<n*12->w.frozen? ⟨b,o+j,none⟩=false)(hn:0<n):
  ∃zs:List Value,zs.length=n*12/\(Builtin.clear_ #[85] ty #[.slice (some ⟨b,o,none⟩) n c]).run prog w= .ok (.tuple #[]) (w.setCells b o zs):=by
 have hv:∀w,(zeroValue 92).run prog w= .ok (.agg (cRc zRc).toArray) w:=λw=>oM;have hz:(Builtin.zeroCells (cRc zRc).toArray n).toList.length=n*12:=by rw[Array.length_toList,size_zeroCells];rfl
 have hst:=run_storeCells_cells (P:=prog) b o (Builtin.zeroCells (cRc zRc).toArray n).toList 0 w (by rw[hz];simpa using ht) (by rw[hz];simpa using hf) (by
  intro v S9;simp only[Builtin.zeroCells,Array.toList_map,mem_map]at S9;obtain⟨i,_,rfl⟩:=S9;refine zcZ zRc _ ?_;have hlt:i % (cRc zRc).toArray.size<(cRc zRc).toArray.size:=mod_lt _ (by decide);rw[getElem!_pos (cRc zRc).toArray _ hlt,<-Array.getElem_toList]
  exact getElem_mem _)
 simp only[Nat.add_zero]at hst;obtain⟨m,rfl⟩:∃m,n=m+1:=⟨n - 1,om⟩;refine⟨_,hz,?_⟩;simp[Builtin.clear_,run_underlying underlying85,hv,Value.cells,hst]
end Go.Proofs.YtlibdcmcbinfnaaGreat
