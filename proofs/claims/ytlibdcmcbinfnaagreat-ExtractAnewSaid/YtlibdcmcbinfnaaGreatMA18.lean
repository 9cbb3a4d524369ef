/- Lemmas. -/
import Derived.Test.YtlibdcmcbinfnaaGreatMA17
import Derived.Maps.OwnSet
import Derived.Shelf.SlicesG.Cells
import Derived.Shelf.SlicesG.SearchI
import Derived.Deep.LoopGhost
import Derived.Shelf.Spec.SlicesInsertGrow
set_option maxHeartbeats 100000000
set_option maxRecDepth 1000000
namespace Go.Proofs.YtlibdcmcbinfnaaGreat
open _root_.Go.Proofs.Tryz List Nat
open Go.RowKit
variable{a:Go.Act}{w w':World}{Q:Exit->Go.Act->World->Prop}{L:FT}{j mb n i cap g b vb:Nat}{x c z:Int}{v:Value}{l zs xs:List Int}{X:List Value}
theorem zwV{P:Program}{c:Code}(fr:Nat->(Nat->Value)->Go.Act)(Φ:Nat->World->Prop)
  (h1:c.wp P (λe a' w'=>e= .normal/\∃g f,a'=fr g f/\Φ g w') a w)(h2:∀g f w',Φ g w'->Q .normal (fr g f) w'):c.wp P Q a w:=
 Code.wp_mono (λe a' w' h=>by
  obtain⟨rfl,g,f,rfl,hp⟩:=h
  exact h2 g f w' hp) h1
theorem zqX{fr:Nat->(Nat->Value)->Go.Act}{Φ:Nat->World->Prop}{a':Go.Act}(g:Nat)(hp:Φ g w')(h:a'=fr g (λi=>a'.tmps.getD i undef)):(Exit.normal= .normal)/\∃g f,a'=fr g f/\Φ g w':=⟨rfl,g,_,h,hp⟩
def zNd:Nd:=⟨0,0,λ_=>0,false⟩
theorem zqY{L:List Nd}{O:List Int}(h:O[j]? =some x)(s:Acc):(O.take (j+1)).foldl (ztw L) s=ztw L ((O.take j).foldl (ztw L) s) x:=by
 rw[take_add_one,h,foldl_append];rfl
theorem ziO{L:List Nd}(hW:WF (zaj L)){x:Int}(hx:x∈zbq L):∃n,elF Nd.id L x=some n:=by
 have hin:x∈L.map Nd.id:=by
  obtain⟨y,hy,hz⟩:=(zgd hW).1 hx;rcases hz with rfl | hz
  ·exact (za4 _).mem_iff.1 hy
  ·have h1:=zlD hW hz;rw[zg1]at h1;obtain⟨m,hm,e⟩:=mem_map.1 h1;exact mem_map.2 ⟨m,(mem_filter.1 hm).1,e⟩
 cases h:elF Nd.id L x with
 | some n=>exact⟨n,rfl⟩
 | none=>
  obtain⟨m,hm,e⟩:=mem_map.1 hin;have:=find?_eq_none.1 h m hm;simp[e]at this
def Rg(x:Int):Prop:= -9223372036854775808<=x/\x<=9223372036854775807
instance (x:Int):Decidable (Rg x):=by unfold Rg;exact inferInstance
def Rgs(xs:List Int):Prop:=∀x∈xs,Rg x
instance (xs:List Int):Decidable (Rgs xs):=by unfold Rgs;exact inferInstance
theorem zdV:Go.Maps.Keyed prog 81:=Go.Maps.int_keyed underlying81
theorem znb(h:Rg x):keyOf prog 81 (.int .i64 x)=some (.int .i64 x):=by
 refine Go.Maps.keyOf_int_mk underlying81 ?_;show (decide (IntKind.i64.min<=x) && decide (x<=IntKind.i64.max))=true;rw[decide_eq_true (show IntKind.i64.min<=x from h.1),decide_eq_true (show x<=IntKind.i64.max from h.2)];rfl
structure MK (α:Type) where
 t:TypeId
 e:TypeId
 V:Option α->Value
 E:Option α->DataW Unit
 R:Value->Option (DataW Unit × List MemPlace)
 ht:prog.underlying t=some (.map 81 e)
 hz:∀w,(zeroValue e).run prog w= .ok (V none) w
 rv:∀o,R (V o)=some (E o,[])
 inv:∀v o ps,R v=some (E o,ps)->v=V o
def MF{α:Type}(k:MK α)(w:World)(mb:Nat)(m:Int->Option α):Prop:=∃D:DataW Unit,w.ownsMap prog 81 k.R mb 100000 D/\(∀x,Rg x->D.atKey (.int .i64 x) (k.E none)=k.E (m x)/\Maps.has D (.int .i64 x)=(m x).isSome)/\∀x:Int,Maps.has D (.int .i64 x)=true->Rg x
def upm{α:Type}(m:Int->Option α)(x:Int)(o:Option α)(y:Int):Option α:=if y=x then o else m y
def ddI:List Int->List Int
 | []=>[]
 | x::l=>if x∈l then ddI l else x::ddI l
theorem zg3{z:Int}:∀ {l:List Int},z∈ddI l↔z∈l
 | []=>Iff.rfl
 | x::l=>by
  unfold ddI
  by_cases c:x∈l
  ·rw[if_pos c,zg3,mem_cons];exact⟨.inr,λh=>h.elim (λe=>e ▸ c) id⟩
  ·rw[if_neg c,mem_cons,mem_cons,zg3]
theorem ziP:∀l:List Int,(ddI l).Nodup
 | []=>nodup_nil
 | x::l=>by
  unfold ddI
  by_cases c:x∈l
  ·rw[if_pos c];exact ziP l
  ·rw[if_neg c];exact nodup_cons.2 ⟨λh=>c (zg3.1 h),ziP l⟩
theorem zlN:∀l:List Int,(ddI l).length<=l.length
 | []=>Nat.le_refl _
 | x::l=>by
  have ih:=zlN l;unfold ddI
  by_cases c:x∈l
  ·rw[if_pos c,length_cons];omega
  ·rw[if_neg c,length_cons,length_cons];omega
theorem zoE{R:Value->Option (DataW Unit × List MemPlace)}{D:DataW Unit}(hw:w.ownsMap prog 81 R mb n D)(K:List Int)(hK:∀x:Int,Maps.has D (.int .i64 x)=true->x∈K):Maps.size D<=K.length:=by
 have hp:(ddI (K.filter λx=>Maps.has D (.int .i64 x))).Perm (intKeys D):=CollectedI.perm (left:=λ_=>false) ⟨ziP _,λx=>by
  rw[zg3,mem_filter]
  exact⟨λh=>⟨h.2,rfl⟩,λh=>⟨hK x h.1,h.1⟩⟩⟩ hw zdV underlying81 (λ_=>rfl)
 have h1:=hp.length_eq;have h2:=zlN (K.filter λx=>Maps.has D (.int .i64 x));have h3:=length_filter_le (λx=>Maps.has D (.int .i64 x)) K;obtain⟨es,rfl,_⟩:=hw.entries zdV;unfold intKeys at h1;rw[length_map]at h1;rw[Maps.size_eq];omega
theorem zqZ{R:Value->Option (DataW Unit × List MemPlace)}{m:Nat}{D:DataW Unit}(hw:w.ownsMap prog 81 R mb n D)(h:Maps.size D<=m):w.ownsMap prog 81 R mb m D:=by
 obtain⟨es,clock,hb,F,hs,hD⟩:=hw;refine⟨es,clock,hb,F,?_,hD⟩;have e1:Maps.size D=es.size:=by rw[hD];simp[Maps.size,length_sorted]
 omega
section
variable {α:Type} {k:MK α} {w w':World} {mb:Nat} {m:Int->Option α} {x:Int}
theorem MF.lt(h:MF k w mb m):mb<w.heap.size:=by
 obtain⟨D,hD,_⟩:=h;exact hD.lt
theorem MF.same(h:MF k w mb m)(he:w'.heap[mb]? =w.heap[mb]?):MF k w' mb m:=by
 obtain⟨D,⟨es,clock,hb,F,hs,hD⟩,hk⟩:=h;exact⟨D,⟨es,clock,he.trans hb,F,hs,hD⟩,hk⟩
theorem MF.keep(h:MF k w mb m)(hb:Bw w w'):MF k w' mb m:=h.same (hb.block mb h.lt)
theorem MF.eq(h:MF k w mb m){m':Int->Option α}(he:∀x,Rg x->m' x=m x):MF k w mb m':=by
 obtain⟨D,hD,hk,hr⟩:=h;exact⟨D,hD,λx hx=>by rw[he x hx];exact hk x hx,hr⟩
theorem MF.new(k:MK α)(w:World):MF k (w.alloc (.map #[] 0)) w.heap.size (λ_=>none):=
 ⟨.map [],(World.ownsMap_made w _ _ _).mono om,λ_ _=>⟨rfl,rfl⟩,λx h=>by cases h⟩
theorem MF.look(h:MF k w mb m)(hx:Rg x):(Instr.lookup k.t (.map (some mb)) (.int .i64 x) true).run prog w= .ok (.tuple #[k.V (m x),.bool (m x).isSome]) w:=by
 obtain⟨D,hD,hk,_⟩:=h;obtain⟨v,ps,Hf,hv⟩:=hD.look_ok zdV k.ht (k.hz w) (k.rv none) (znb hx);rw[(hk x hx).1]at hv;rw[Hf,k.inv v _ _ hv,(hk x hx).2]
theorem MF.get(h:MF k w mb m)(hx:Rg x):(Instr.lookup k.t (.map (some mb)) (.int .i64 x) false).run prog w= .ok (k.V (m x)) w:=by
 obtain⟨D,hD,hk,_⟩:=h;obtain⟨v,ps,Hf,hv⟩:=hD.lookup zdV k.ht (k.hz w) (k.rv none) (znb hx);rw[(hk x hx).1]at hv;rw[Hf,k.inv v _ _ hv]
theorem MF.put(h:MF k w mb m)(hx:Rg x)(a:α)(K:List Int)(hK:∀y,(upm m x (some a) y).isSome=true->y∈K)(C9:K.length<=100000):
  ∃w',(Instr.mapUpdate k.t (.map (some mb)) (.int .i64 x) (k.V (some a))).run prog w= .ok () w'/\MF k w' mb (upm m x (some a))/\w.grownBy w' (some mb):=by
 obtain⟨D,hD,hk,hr⟩:=h;obtain⟨w',Hf,h1,h2⟩:=hD.update zdV k.ht (by unfold maxLen;omega) (znb hx) (k.rv (some a));have hm:Maps.IsMap D:=hD.isMap;have hL:WideAt.IsKeyLit (.int .i64 x):=trivial;have Hd:∀ {y:Int},y≠x->(Lit.int .i64 y)≠.int .i64 x:=λhy e=>by injection e with _ e;exact hy e
 have C2:∀y:Int,Maps.has (D.put (.int .i64 x) (k.E (some a))) (.int .i64 y)=true->Rg y:=λy hy=>by
  by_cases c:y=x
  ·rw[c];exact hx
  ·rw[Maps.has_put_other (Hd c)]at hy;exact hr y hy
 have KV:∀y,Rg y->(D.put (.int .i64 x) (k.E (some a))).atKey (.int .i64 y) (k.E none)=k.E (upm m x (some a) y)/\Maps.has (D.put (.int .i64 x) (k.E (some a))) (.int .i64 y)=(upm m x (some a) y).isSome:=λy hy=>by
  unfold upm
  by_cases c:y=x
  ·subst c;rw[if_pos rfl,Maps.atKey_put_same hm hL,Maps.has_put_same hm hL];exact⟨rfl,rfl⟩
  ·rw[if_neg c,Maps.atKey_put_other (Hd c),Maps.has_put_other (Hd c)];exact hk y hy
 have hs:=zoE h1 K (λy hy=>hK y (by rw[<-(KV y (C2 y hy)).2];exact hy));exact⟨w',Hf,⟨_,zqZ h1 (Nat.le_trans hs C9),KV,C2⟩,h2⟩
theorem MF.del(h:MF k w mb m)(hx:Rg x):
  ∃w',(∀ty,(Builtin.delete_ #[k.t,81] ty #[.map (some mb),.int .i64 x]).run prog w= .ok (.tuple #[]) w')/\MF k w' mb (upm m x none)/\w.grownBy w' (some mb):=by
 obtain⟨D,hD,hk,hr⟩:=h;obtain⟨w',Hf,h1,h2⟩:=hD.drop zdV k.ht (znb hx) 0;have Hd:∀ {y:Int},y≠x->(Lit.int .i64 y)≠.int .i64 x:=λhy e=>by injection e with _ e;exact hy e
 refine⟨w',λ_=>Hf,⟨_,h1,λy hy=> ?_,λy hy=> ?_⟩,h2.grown⟩
 ·unfold upm
  by_cases c:y=x
  ·subst c;rw[if_pos rfl,Maps.atKey_del_same,Maps.has_del_same];exact⟨rfl,rfl⟩
  ·rw[if_neg c,Maps.atKey_del_other (Hd c),Maps.has_del_other (Hd c)];exact hk y hy
 ·by_cases c:y=x
  ·rw[c];exact hx
  ·rw[Maps.has_del_other (Hd c)]at hy;exact hr y hy
end
def zwW:Value->DataW Unit
 | .int k x=> .lit (.int k x)
 | .bool b=> .lit (.bool b)
 | _=> .nil
def zoF(v:Value):Prop:=(∃k x,v= .int k x)∨∃b,v= .bool b
theorem zty{u:Value}(hu:zoF u)(h:zwW v=zwW u):v=u:=by
 rcases hu with ⟨k,x,rfl⟩ | ⟨b,rfl⟩
 ·cases v <;> simp[zwW]at h ⊢
  exact h
 ·cases v <;> simp[zwW]at h ⊢
  exact h
def zvp:Value->DataW Unit
 | .agg a=> .agg (a.toList.map zwW)
 | _=> .nil
theorem znc:∀ {xs l:List Value},(∀u∈l,zoF u)->xs.map zwW=l.map zwW->xs=l
 | [],[],_,_=>rfl
 | [],_::_,_,h=>by simp at h
 | _::_,[],_,h=>by simp at h
 | x::xs,y::l,hl,h=>by
  rw[map_cons,map_cons]at h;injection h with h1 h2;rw[zty (hl y mem_cons_self) h1,znc (λu hu=>hl u (mem_cons_of_mem _ hu)) h2]
theorem znd{l:List Value}(hl:∀u∈l,zoF u)(h:zvp v=zvp (.agg l.toArray)):v= .agg l.toArray:=by
 cases v with
 | agg a=>
  unfold zvp at h;injection h with h;have:=znc (xs:=a.toList) (l:=l) hl h;rw[<-this]
 | _=>simp[zvp]at h
def mkA{α:Type}(t e:TypeId)(V:Option α->Value)(ht:prog.underlying t=some (.map 81 e))(hz:∀w,(zeroValue e).run prog w= .ok (V none) w)(hV:∀o,∃l:List Value,V o= .agg l.toArray/\∀u∈l,zoF u):MK α where
 t:=t
 e:=e
 V:=V
 E o:=zvp (V o)
 R v:=some (zvp v,[])
 ht:=ht
 hz:=hz
 rv o:=rfl
 inv v o ps h:=by
  simp at h;obtain⟨l,hl,hs⟩:=hV o;rw[hl]at h ⊢;exact znd hs h.1
def LDr(F:Nat->Prop)(w w':World)(xs:List Int)(v:Value):Prop:=∃a cap,v= .slice a xs.length cap/\Row w' a xs.length xs/\(xs.length=0∨∀ad,a=some ad->F ad.block∨w.heap.size<=ad.block)
def zq0(v:Value):Prop:=∃a n cap,v= .slice a n cap/\n<=cap
section
variable {FB:World->Nat->(Nat->Prop)->FT->Prop}
structure Duo9 (FB:World->Nat->(Nat->Prop)->FT->Prop) (w0 w:World) (gp gr:Nat) (Fp Fq:Nat->Prop) (Lp Lq:FT):Prop where
 p:FB w gp Fp Lp
 q:RFB w gr Fq Lq
 far:∀b,Fp b->¬Fq b
 low:Bw w0 w
 np:∀b,Fp b->w0.heap.size<=b
 nq:∀b,Fq b->w0.heap.size<=b
variable {w0 w w':World} {gp gr:Nat} {Fp Fq:Nat->Prop} {Lp Lq Gi Gj:FT}
end
structure A9 where
 k:Int
 a:Option Addr
 n:Nat
 cap:Nat
 xs:List Int
open Go.Shelf
def zj6:Go.Shelf.Ren:=⟨fun | 35=>198 | n=>n,fun | 22=>35 | 23=>81 | 3=>3 | 4=>4 | 0=>0 | n=>n,fun | n=>n⟩
theorem zne:Go.Proofs.SlLaysN.n35 prog zj6:={
 mixed:=oM
 f35:=⟨Tryz.f198.name,by decide,func198.trans (congrArg some oM)⟩
 t0:=underlying0
 a0:=isAgg0
 z0:=sizeOf0
 v0:=zeroValue0
 t3:=underlying3
 a3:=isAgg3
 z3:=sizeOf3
 v3:=zeroValue3
 t4:=underlying4
 a4:=isAgg4
 z4:=sizeOf4
 v4:=zeroValue4
 t22:=underlying35
 a22:=isAgg35
 z22:=sizeOf35
 v22:=zeroValue35
 t23:=underlying81
 a23:=isAgg81
 z23:=sizeOf81
 v23:=zeroValue81 }
def ziQ:Go.Shelf.Ren:=⟨fun | 43=>253 | n=>n,fun | 22=>35 | 23=>81 | 3=>3 | 4=>4 | 0=>0 | n=>n,fun | n=>n⟩
theorem zj7:Go.Proofs.SlLaysN.n43 prog ziQ:={
 mixed:=oM
 f43:=⟨Tryz.f253.name,by decide,func253.trans (congrArg some oM)⟩
 t0:=underlying0
 a0:=isAgg0
 z0:=sizeOf0
 v0:=zeroValue0
 t3:=underlying3
 a3:=isAgg3
 z3:=sizeOf3
 v3:=zeroValue3
 t4:=underlying4
 a4:=isAgg4
 z4:=sizeOf4
 v4:=zeroValue4
 t22:=underlying35
 a22:=isAgg35
 z22:=sizeOf35
 v22:=zeroValue35
 t23:=underlying81
 a23:=isAgg81
 z23:=sizeOf81
 v23:=zeroValue81
 i23:=by kernel_rfl }
def zj8:Go.Shelf.Ren:=⟨fun | 45=>183 | n=>n,fun | 22=>35 | 23=>81 | 3=>3 | 4=>4 | 0=>0 | n=>n,fun | n=>n⟩
theorem ztz:Go.Proofs.SlLaysN.n45 prog zj8:={
 mixed:=oM
 f45:=⟨Tryz.f183.name,by decide,func183.trans (congrArg some oM)⟩
 t0:=underlying0
 a0:=isAgg0
 z0:=sizeOf0
 v0:=zeroValue0
 t3:=underlying3
 a3:=isAgg3
 z3:=sizeOf3
 v3:=zeroValue3
 t4:=underlying4
 a4:=isAgg4
 z4:=sizeOf4
 v4:=zeroValue4
 t22:=underlying35
 a22:=isAgg35
 z22:=sizeOf35
 v22:=zeroValue35
 t23:=underlying81
 a23:=isAgg81
 z23:=sizeOf81
 v23:=zeroValue81
 i23:=by kernel_rfl }
def ziR:Go.Shelf.Ren:=⟨fun | 49=>182 | 59=>208 | 60=>244 | 68=>261 | n=>n,fun | 22=>35 | 23=>81 | 3=>3 | 4=>4 | 51=>226 | 0=>0 | n=>n,fun | n=>n⟩
theorem zq1:Go.Proofs.SlLaysN.n49 prog ziR:={
 mixed:=oM
 f49:=⟨Tryz.f182.name,by decide,func182.trans (congrArg some oM)⟩
 f59:=⟨Tryz.f208.name,by decide,func208.trans (congrArg some oM)⟩
 f60:=⟨Tryz.f244.name,by decide,func244.trans (congrArg some oM)⟩
 f68:=⟨Tryz.f261.name,by decide,func261.trans (congrArg some oM)⟩
 t0:=underlying0
 a0:=isAgg0
 z0:=sizeOf0
 v0:=zeroValue0
 t3:=underlying3
 a3:=isAgg3
 z3:=sizeOf3
 v3:=zeroValue3
 t4:=underlying4
 a4:=isAgg4
 z4:=sizeOf4
 v4:=zeroValue4
 t22:=underlying35
 a22:=isAgg35
 z22:=sizeOf35
 v22:=zeroValue35
 t23:=underlying81
 a23:=isAgg81
 z23:=sizeOf81
 v23:=zeroValue81
 t51:=underlying226
 a51:=isAgg226
 z51:=sizeOf226
 v51:=zeroValue226 }
theorem zz0(w:World):(zeroValue 81).run prog w= .ok (.int .i64 0) w:=oM
theorem zyK(w:World):(zeroValue 35).run prog w= .ok (.slice none 0 0) w:=oM
def pR:Value->Option (DataW Unit × List MemPlace)
 | .int .i64 y=>some (.lit (.int .i64 y),[])
 | _=>none
def pK:MK Int where
 t:=139
 e:=81
 V o:= .int .i64 (zjy o)
 E o:= .lit (.int .i64 (zjy o))
 R:=pR
 ht:=underlying139
 hz:=zz0
 rv o:=rfl
 inv v o ps h:=by
  unfold pR at h
  split at h
  ·simp at h;rw[h.1]
  ·cases h
def cV:Option (Nat × Nat × Nat)->Value
 | none=> .slice none 0 0
 | some (b,n,c)=> .slice (some ⟨b,0,none⟩) n c
def cE:Option (Nat × Nat × Nat)->DataW Unit
 | none=> .nil
 | some (b,n,c)=> .agg [.lit (.int .i64 b),.lit (.int .i64 n),.lit (.int .i64 c)]
def cR:Value->Option (DataW Unit × List MemPlace)
 | .slice none n c=>if n=0/\c=0 then some (.nil,[]) else none
 | .slice (some a) n c=>if a=⟨a.block,0,none⟩ then some (.agg [.lit (.int .i64 a.block),.lit (.int .i64 n),.lit (.int .i64 c)],[]) else none
 | _=>none
theorem cR_V(o:Option (Nat × Nat × Nat)):cR (cV o)=some (cE o,[]):=by
 cases o with
 | none=>rfl
 | some q=>obtain⟨b,n,c⟩:=q;simp[cV,cR,cE]
theorem zyL(v:Value)(o:Option (Nat × Nat × Nat))(ps:List MemPlace)(h:cR v=some (cE o,ps)):v=cV o:=by
 unfold cR at h
 split at h
 ·rename_i n c
  by_cases q:n=0/\c=0
  ·rw[if_pos q]at h;obtain⟨rfl,rfl⟩:=q
   cases o with
   | none=>rfl
   | some q=>obtain⟨b,n,c⟩:=q;simp[cE]at h
  ·rw[if_neg q]at h;cases h
 ·rename_i a n c
  by_cases q:a=⟨a.block,0,none⟩
  ·rw[if_pos q]at h
   cases o with
   | none=>simp[cE]at h
   | some z=>
    obtain⟨b,n',c'⟩:=z;simp[cE]at h;obtain⟨⟨h1,h2,h3⟩,_⟩:=h;have e1:a.block=b:=om;have e2:n=n':=om;have e3:c=c':=om;subst e2 e3;show _=Value.slice (some ⟨b,0,none⟩) n c;rw[q,e1]
  ·rw[if_neg q]at h;cases h
 ·cases h
def cK:MK (Nat × Nat × Nat) where
 t:=140
 e:=35
 V:=cV
 E:=cE
 R:=cR
 ht:=underlying140
 hz:=zyK
 rv:=cR_V
 inv:=zyL
theorem za9{ops:Array Oper}{rest:List Oper}{op:Oper}(Kg:op.guard=none)(tm tx:Operand)(t k:TypeId)
  (ho:op.op= .call { callee:= .builtin .delete,args:= #[tm,tx],argTypes:= #[t,k] })(v u:Value)(hm:a.eval tm=v)(hx:a.eval tx=u)
  (hr:(Builtin.delete_ #[t,k] op.type #[v,u]).run prog w= .ok (.tuple #[]) w')(h:wpList prog ops Q rest (a.put op.dst (.tuple #[])) w'):wpList prog ops Q (op::rest) a w:=by
 refine wpList_plain Kg λK hK=> ?_;have h3:=hK _ _ h;unfold Oper.wp execOp;simp only[ho,resolve,invoke,builtin,Sem.run_bind,Sem.run_pure,Result.andThen_ok,map_toArray,map_cons,map_nil,hm,hx,hr];exact h3
theorem zg4(h:l.Pairwise (·<·)):l.Nodup:=h.imp (fun {a b} c=>om)
theorem zg5{m:List Int}(hl:l.Pairwise (·<·))(hm:m.Pairwise (·<·))(h:∀z,z∈l↔z∈m):l=m:=
 List.Perm.eq_of_pairwise (le:=λa b=>a<b) (λa b _ _ h1 h2=>om) hl hm ((perm_ext_iff_of_nodup (zg4 hl) (zg4 hm)).2 h)
theorem zb7(hn:(L.map Prod.fst).Nodup)(x:Int):(chF L x).Pairwise (·<·):=by
 have h1:(chF L x).Pairwise (·<=·):=zbP _ [] List.Pairwise.nil;have h2:(chF L x).Pairwise (·≠·):=zqF hn x;exact (h1.and h2).imp (fun {a b} c=>om)
theorem zyM(h:l.Pairwise (·<·)):l.Pairwise (·<=·):=h.imp (fun {a b} c=>om)
theorem zq2{c:Int}:∀ {l:List Int},l.Pairwise (·<·)->c∈l->l[l.countP (λz=>decide (z<c))]? =some c
 | [],_,h=>by cases h
 | a::l,hp,h=>by
  rw[pairwise_cons]at hp;rcases mem_cons.1 h with rfl | h
  ·have h0:(c::l).countP (λz=>decide (z<c))=0:=List.countP_eq_zero.2 (λz hz=>by
    rcases mem_cons.1 hz with rfl | hz
    ·simp
    ·have:=hp.1 z hz;simp;omega)
   rw[h0];rfl
  ·have hlt:=hp.1 c h;rw[countP_cons_of_pos (by simpa using hlt),getElem?_cons_succ];exact zq2 hp.2 h
theorem zj9{c:Int}:∀ {l:List Int},l.Pairwise (·<·)->(∀z∈l.take (l.countP (λz=>decide (z<c))),z<c)/\∀z∈l.drop (l.countP (λz=>decide (z<c))),¬z<c
 | [],_=>⟨λz h=>by simp at h,λz h=>by simp at h⟩
 | a::l,hp=>by
  rw[pairwise_cons]at hp
  by_cases hlt:a<c
  ·rw[countP_cons_of_pos (by simpa using hlt),take_succ_cons,drop_succ_cons];obtain⟨h1,h2⟩:=zj9 hp.2;exact⟨λz hz=>(mem_cons.1 hz).elim (λe=>by rw[e];exact hlt) (h1 z),h2⟩
  ·have h0:(a::l).countP (λz=>decide (z<c))=0:=List.countP_eq_zero.2 (λz hz=>by
    rcases mem_cons.1 hz with rfl | hz
    ·simpa using hlt
    ·have:=hp.1 z hz;simp;omega)
   rw[h0];refine⟨λz hz=>by simp at hz,λz hz=> ?_⟩;rw[drop_zero]at hz;rcases mem_cons.1 hz with rfl | hz
   ·exact hlt
   ·have:=hp.1 z hz;omega
def zhG(l:List Int)(c:Int):Nat:=l.countP (λz=>decide (z<c))
theorem zq3(l:List Int)(c:Int):zhG l c<=l.length:=countP_le_length
theorem zq4(hp:l.Pairwise (·<·))(h:c∈l):zhG l c<l.length:=(List.getElem?_eq_some_iff.1 (zq2 hp h)).1
def ztA(l:List Int)(c:Int):List Int:=l.take (zhG l c)++l.drop (zhG l c+1)
def zvq(l:List Int)(c:Int):List Int:=l.take (zhG l c)++c::l.drop (zhG l c)
theorem ztB(h:l[i]? =some c):l=l.take i++c::l.drop (i+1):=by
 obtain⟨hi,e⟩:=List.getElem?_eq_some_iff.1 h;rw[<-e,<-drop_eq_getElem_cons hi,take_append_drop]
theorem znf(hp:l.Pairwise (·<·))(h:c∈l):(ztA l c).length=l.length - 1:=by
 have:=zq4 hp h;unfold ztA;rw[length_append,length_take,length_drop];omega
theorem ziS(l:List Int)(c:Int):(zvq l c).length=l.length+1:=by
 have:=zq3 l c;unfold zvq;rw[length_append,length_take,length_cons,length_drop];omega
theorem zwX(hp:l.Pairwise (·<·)):(ztA l c).Pairwise (·<·):=by
 unfold ztA;rw[<-eraseIdx_eq_take_drop_succ];exact hp.sublist (eraseIdx_sublist _ _)
theorem ztC(hp:l.Pairwise (·<·))(h:c∈l){z:Int}:z∈ztA l c↔z∈l/\z≠c:=by
 have e:=ztB (zq2 hp h);have C5:=hp;rw[e,pairwise_append]at C5;obtain⟨h1,h2,h3⟩:=C5;rw[pairwise_cons]at h2;unfold ztA zhG;constructor
 ·intro hz;rcases mem_append.1 hz with hz | hz
  ·exact⟨mem_of_mem_take hz,λq=>by have:=h3 z hz c mem_cons_self;omega⟩
  ·exact⟨mem_of_mem_drop hz,λq=>by have:=h2.1 z hz;omega⟩
 ·rintro⟨hz,Hd⟩;rw[e]at hz;rcases mem_append.1 hz with hz | hz
  ·exact mem_append_left _ hz
  ·rcases mem_cons.1 hz with hz | hz
   ·exact absurd hz Hd
   ·exact mem_append_right _ hz
theorem zwY(hp:l.Pairwise (·<·))(h:c∉l):(zvq l c).Pairwise (·<·):=by
 obtain⟨h1,h2⟩:=zj9 (c:=c) hp;have TN:∀z∈l.drop (zhG l c),c<z:=λz hz=>by
  have q1:=h2 z hz;have q2:z≠c:=λe=>h (e ▸ mem_of_mem_drop hz);omega
 unfold zvq;refine pairwise_append.2 ⟨hp.sublist (take_sublist _ _),pairwise_cons.2 ⟨TN,hp.sublist (drop_sublist _ _)⟩,λa ha b hb=> ?_⟩;have Yt:=h1 a ha;rcases mem_cons.1 hb with rfl | hb
 ·exact Yt
 ·have:=TN b hb;omega
theorem ztD:z∈zvq l c↔z=c∨z∈l:=by
 unfold zvq;rw[mem_append,mem_cons];constructor
 ·rintro (h | h | h)
  ·exact .inr (mem_of_mem_take h)
  ·exact .inl h
  ·exact .inr (mem_of_mem_drop h)
 ·rintro (h | h)
  ·exact .inr (.inl h)
  ·rw[<-take_append_drop (zhG l c) l,mem_append]at h;exact h.imp id Or.inr
section
variable {L:FT} {c p x:Int}
theorem zdv(hn:(L.map Prod.fst).Nodup)(h:zak L c=some p)(hx:x≠p):chF (zaI L c) x=chF L x:=by
 refine zg5 (zb7 (zbM hn c) x) (zb7 hn x) (λz=> ?_);rw[zaA (zbM hn c),zaA hn,za7]
 by_cases q:z=c
 ·rw[if_pos q,q,h];exact⟨λk=>(by cases k),λk=>(by injection k with k;exact absurd k.symm hx)⟩
 ·rw[if_neg q]
theorem zka(hn:(L.map Prod.fst).Nodup)(h:zak L c=some p):chF (zaI L c) p=ztA (chF L p) c:=by
 have hc:c∈chF L p:=(zaA hn).2 h;refine zg5 (zb7 (zbM hn c) p) (zwX (zb7 hn p)) (λz=> ?_);rw[zaA (zbM hn c),ztC (zb7 hn p) hc,zaA hn,za7]
 by_cases q:z=c
 ·rw[if_pos q];exact⟨λk=>(by cases k),λk=>absurd q k.2⟩
 ·rw[if_neg q];exact⟨λk=>⟨k,q⟩,λk=>k.1⟩
theorem zg6(h:zak L c=none):zaI L c=L:=by
 unfold zaI;refine List.filter_eq_self.2 (λq hq=> ?_)
 by_cases e:q.1=c
 ·exfalso;unfold zak at h;have:L.find? (λp=>p.1==c)≠none:=λk=>by
   have:=find?_eq_none.1 k q hq;simp[e]at this
  cases k:L.find? (λp=>p.1==c) with
  | none=>exact this k
  | some v=>rw[k]at h;cases h
 ·simpa using e
theorem zoG(L:FT)(c:Int):zaI (zaI L c) c=zaI L c:=zg6 (by rw[za7,if_pos rfl])
theorem zkb(hn:(L.map Prod.fst).Nodup)(h:zak L c=none)(hx:x≠p):chF (setF L c p) x=chF L x:=by
 refine zg5 (zb7 (zgQ hn c p) x) (zb7 hn x) (λz=> ?_);rw[zaA (zgQ hn c p),zaA hn,zbZ]
 by_cases q:z=c
 ·rw[if_pos q,q,h];exact⟨λk=>(by injection k with k;exact absurd k.symm hx),λk=>(by cases k)⟩
 ·rw[if_neg q]
theorem zlO(hn:(L.map Prod.fst).Nodup)(h:zak L c=none):chF (setF L c p) p=zvq (chF L p) c:=by
 have hc:c∉chF L p:=λk=>by rw[zaA hn,h]at k;cases k
 refine zg5 (zb7 (zgQ hn c p) p) (zwY (zb7 hn p) hc) (λz=> ?_);rw[zaA (zgQ hn c p),ztD,zaA hn,zbZ]
 by_cases q:z=c
 ·rw[if_pos q];exact⟨λ_=>Or.inl q,λ_=>rfl⟩
 ·rw[if_neg q];exact⟨.inr,λk=>k.elim (λe=>absurd e q) id⟩
theorem zdf(z:Int):∀ (xs:List Int) (L:FT),zak (zax L xs) z=if z∈xs then none else zak L z
 | [],L=>by simp[zax]
 | a::xs,L=>by
  have ih:=zdf z xs (zaI L a);show zak (zax (zaI L a) xs) z=_;rw[ih,za7]
  by_cases q:z∈xs
  ·rw[if_pos q,if_pos (mem_cons_of_mem _ q)]
  ·rw[if_neg q]
   by_cases e:z=a
   ·rw[if_pos e,if_pos (by rw[e];exact mem_cons_self)]
   ·rw[if_neg e,if_neg (λk=>(mem_cons.1 k).elim e q)]
theorem zg8:∀ (xs:List Int) {L:FT},(L.map Prod.fst).Nodup->((zax L xs).map Prod.fst).Nodup
 | [],_,h=>h
 | a::xs,_,h=>zg8 xs (zbM h a)
theorem zq5(h:WF L)(x:Int):zak L x≠some x:=λe=>by
 have:=zfr h x;rw[za0 h e]at this;exact this mem_cons_self
theorem zkc(h:WF L)(x:Int):chF (zaI L x) x=chF L x:=by
 cases hp:zak L x with
 | none=>rw[zg6 hp]
 | some p=>exact zdv h.1 hp (λe=>zq5 h x (by rw[hp,<-e]))
theorem zdW(h:WF L)(x:Int):chF (zcJ L x) x=[]:=by
 have hn:=zg8 (chF L x) (zbM h.1 x);refine List.eq_nil_iff_forall_not_mem.2 (λz hz=> ?_);unfold zcJ at hz;rw[zaA hn,zdf]at hz
 by_cases q:z∈chF L x
 ·rw[if_pos q]at hz;cases hz
 ·rw[if_neg q,za7]at hz
  by_cases e:z=x
  ·rw[if_pos e]at hz;cases hz
  ·rw[if_neg e]at hz;exact q ((zaA h.1).2 hz)
theorem zeU(h:WF L){x y:Int}(hy:y≠x):chF (zcJ L x) y=chF (zaI L x) y:=by
 have hn:=zg8 (chF L x) (zbM h.1 x);refine zg5 (zb7 hn y) (zb7 (zbM h.1 x) y) (λz=> ?_);rw[zaA (zbM h.1 x)];unfold zcJ;rw[zaA hn,zdf]
 by_cases q:z∈chF L x
 ·rw[if_pos q,za7];have e:=(zaA h.1).1 q;refine⟨λk=>(by cases k),λk=> ?_⟩
  by_cases f:z=x
  ·rw[if_pos f]at k;cases k
  ·rw[if_neg f,e]at k;injection k with k;exact absurd k.symm hy
 ·rw[if_neg q]
end
theorem ziT(h:∀p∈L,Rg p.1/\Rg p.2)(c:Int):∀p∈zaI L c,Rg p.1/\Rg p.2:=λp hp=>h p (mem_filter.1 hp).1
theorem zkd:∀ (xs:List Int) {L:FT},(∀p∈L,Rg p.1/\Rg p.2)->∀p∈zax L xs,Rg p.1/\Rg p.2
 | [],_,h=>h
 | a::xs,_,h=>zkd xs (ziT h a)
theorem zwZ(h:∀p∈L,Rg p.1/\Rg p.2){c p:Int}(hc:Rg c)(hp:Rg p):∀q∈setF L c p,Rg q.1/\Rg q.2:=λq hq=>by
 unfold setF at hq;rcases mem_append.1 hq with hq | hq
 ·exact ziT h c q hq
 ·rw[mem_singleton]at hq;rw[hq];exact⟨hc,hp⟩
theorem OwnD.len{base:Nat}(h:OwnD w base v n zs):zs.length=n:=by
 have:=h.1;rw[length_map,Nat.mul_one]at this;exact this
theorem OwnD.cut{base k:Nat}(h:OwnD w base (.slice (some ⟨g,0,none⟩) n cap) n zs)(hk:k<=n):OwnD w base (.slice (some ⟨g,0,none⟩) k cap) k (zs.take k):=by
 have hl:=h.len;refine⟨by rw[length_map,length_take,Nat.mul_one];omega,?_⟩;rcases h.2 with ⟨e,_⟩ | ⟨g',cap',cur,e,hb,hg,dA,hm,hs,ht⟩
 ·injection e with e _ _
  cases e
 ·injection e with e1 _ e3;injection e1 with e1;injection e1 with e1 _ _;subst e1 e3;refine .inr ⟨g,cap,cur,rfl,hb,hg,om,hm,hs,?_⟩;rw[Nat.mul_one]at ht ⊢;rw[map_take,<-ht,take_take,Nat.min_eq_left hk]
theorem OwnD.base{base base':Nat}(h:OwnD w base v n zs)(hb:base'<=base):OwnD w base' v n zs:=⟨h.1,h.2.imp id λ⟨g,cap,cur,h1,h2,h3⟩=>⟨g,cap,cur,h1,Nat.le_trans hb h2,h3⟩⟩
theorem OwnD.same{base:Nat}(h:OwnD w base v n zs)(he:∀b,v.ownBlock=some b->w'.heap[b]? =w.heap[b]?):OwnD w' base v n zs:=
 ⟨h.1,h.2.imp id λ⟨g,cap,cur,e,hb,hg,hr⟩=>⟨g,cap,cur,e,hb,(he g (by rw[e];rfl)).trans hg,hr⟩⟩
theorem OwnD.lt{base:Nat}(h:OwnD w base v n zs):∀b,v.ownBlock=some b->base<=b/\b<w.heap.size:=World.ownsRow.lt h
theorem OwnD.keep{base:Nat}(h:OwnD w base v n zs)(hb:Bw w w'):OwnD w' base v n zs:=h.same (λb e=>hb.block b (h.lt b e).2)
theorem ziU{base q:Nat}{ts:List Int}(h:OwnD w base (.slice (some ⟨g,0,none⟩) xs.length cap) xs.length xs)(hl:ts.length=xs.length):
  OwnD (Go.Sort.putRow encZ (Go.Sort.ahead w q) g 0 ts.toArray) base (.slice (some ⟨g,0,none⟩) xs.length cap) xs.length ts/\w.grownBy (Go.Sort.putRow encZ (Go.Sort.ahead w q) g 0 ts.toArray) (some g):=by
 rcases h.2 with ⟨e,_⟩ | ⟨g',cap',cur,e,hb,hg,dA,hm,hs,ht⟩
 ·injection e with e _ _
  cases e
 ·injection e with e1 _ e3;injection e1 with e1;injection e1 with e1 _ _;subst e1 e3;have h1:=ownsRow_sorted_i (n:=q) (os:= #[]) hl hb hg dA hm (by simpa using hs);have h2:=grownBy_sorted_i (w:=w) (g:=g) (n:=q) (os:= #[]) ts.toArray;rw[Go.Sort.grow_empty]at h1 h2;exact⟨h1,h2⟩
theorem zq6{base:Nat}(h:OwnD w base (.slice (some ⟨g,0,none⟩) xs.length cap) xs.length xs):Go.Sort.Holds encZ w g 0 xs.toArray/\xs.length<=cap/\cap<=maxLen:=by
 rcases h.2 with ⟨e,_⟩ | ⟨g',cap',cur,e,hb,hg,dA,hm,hs,ht⟩
 ·injection e with e _ _
  cases e
 ·injection e with e1 _ e3;injection e1 with e1;injection e1 with e1 _ _;subst e1 e3;exact⟨holds_of_block_i hg (by simpa using ht),dA,hm⟩
theorem zng{base:Nat}(h:OwnD w base v n xs):
  Calls prog 198 #[v] w λe w'=>e= .returned (.tuple #[])/\OwnD w' base v n xs.reverse/\w.grownBy w' v.ownBlock:=by
 have hl:=h.len;rcases h.2 with ⟨rfl,h0⟩ | ⟨g,cap,cur,rfl,hb,hg,dA,hm,hs,ht⟩
 ·have hx:xs=[]:=eq_nil_of_length_eq_zero om;subst hx;refine (AnyG.slices_Reverse_int_empty zne none 0 w).mono ?_;rintro e w' ⟨rfl,rfl⟩;exact⟨rfl,h,⟨rfl,rfl,rfl,Nat.le_refl _,λ_ _ _=>rfl⟩⟩
 ·subst hl;obtain⟨h1,h2,h3⟩:=zq6 h;unfold maxLen at h3;refine (AnyG.slices_Reverse_int zne g 0 cap xs w h1 om).mono ?_;rintro e w' ⟨rfl,q,rfl⟩;obtain⟨k1,k2⟩:=ziU (q:=q) (ts:=xs.reverse) h (by simp);exact⟨rfl,k1,k2⟩
theorem zq7{base:Nat}(h:OwnD w base v n xs):
  Calls prog 253 #[v] w λe w'=>∃v',e= .returned v'/\OwnD w' base v' (Lib.compact xs).length (Lib.compact xs)/\w.grownBy w' v.ownBlock/\v'.ownBlock=v.ownBlock:=by
 have hl:=h.len;rcases h.2 with ⟨rfl,h0⟩ | ⟨g,cap,cur,rfl,hb,hg,dA,hm,hs,ht⟩
 ·have hx:xs=[]:=eq_nil_of_length_eq_zero om;subst hx;refine (AnyG.slices_Compact_int_empty zj7 none 0 w).mono ?_;rintro e w' ⟨rfl,rfl⟩;exact⟨_,rfl,OwnD.nil _ _,⟨rfl,rfl,rfl,Nat.le_refl _,λ_ _ _=>rfl⟩,rfl⟩
 ·subst hl;obtain⟨h1,h2,h3⟩:=zq6 h;unfold maxLen at h3;have hle:=Lib.compact_length_le xs;refine (AnyG.slices_Compact_int zj7 g 0 cap xs w h1 om h2).mono ?_;rintro e w' ⟨rfl,q,rfl⟩;obtain⟨k1,k2⟩:=ziU (q:=q) (ts:=Lib.compact xs++replicate (xs.length - (Lib.compact xs).length) 0) h (by rw[length_append,length_replicate];omega);refine⟨_,rfl,?_,k2,rfl⟩;have k3:=k1.cut hle
  rwa [take_left]at k3
theorem ztE{base:Nat}(h:OwnD w base (.slice (some ⟨g,0,none⟩) xs.length cap) xs.length xs)(hi:i<xs.length):
  Calls prog 183 #[.slice (some ⟨g,0,none⟩) xs.length cap,.int .i64 i,.int .i64 (i+1)] w λe w'=>e= .returned (.slice (some ⟨g,0,none⟩) (xs.length - 1) cap)/\OwnD w' base (.slice (some ⟨g,0,none⟩) (xs.length - 1) cap) (xs.length - 1) (xs.take i++xs.drop (i+1))/\w.grownBy w' (some g):=by
 obtain⟨h1,h2,h3⟩:=zq6 h;unfold maxLen at h3;have hc:=AnyG.slices_Delete_int ztz g 0 cap i (i+1) xs w h1 h2 om om om;rw[show i+1 - i=1 by omega]at hc;refine hc.mono ?_;rintro e w' ⟨rfl,q,rfl⟩;have hl:(xs.take i++xs.drop (i+1)).length=xs.length - 1:=by rw[length_append,length_take,length_drop];omega
 obtain⟨k1,k2⟩:=ziU (q:=q) (ts:=xs.take i++xs.drop (i+1)++replicate 1 0) h (by rw[length_append,hl,length_replicate];omega);refine⟨rfl,?_,k2⟩;have k3:=k1.cut (k:=xs.length - 1) om
 rwa [take_left' hl]at k3
theorem zh1{a:Option Addr}(h:Row w a n xs)(hn:n<=100000):
  Calls prog 187 #[.slice a n cap] w λe w'=>∃v,e= .returned v/\OwnD w' w.heap.size v n xs/\Bw w w':=by
 have hl:=h.1
 cases a with
 | none=>
  have h0:n=0:=by
   rcases h.2.2 with c | ⟨b,off,e,_⟩
   ·exact c
   ·cases e
  subst h0;have hx:xs=[]:=eq_nil_of_length_eq_zero hl;subst hx;refine (AnyG.slices_Clone_int_nil zfq 0 cap w).mono ?_;rintro e w' ⟨rfl,rfl⟩;exact⟨_,rfl,OwnD.nil _ _,Below.refl _ _⟩
 | some ad=>
  by_cases h0:n=0
  ·subst h0;have hx:xs=[]:=eq_nil_of_length_eq_zero hl;subst hx;refine (AnyG.slices_Clone_int_zero zfq ad cap w).mono ?_;rintro e w' ⟨v,rfl,k1,_,k2⟩;exact⟨v,rfl,k1,k2⟩
  ·rcases h.2.2 with c | ⟨b,off,e,hc⟩
   ·exact absurd c h0
   ·injection e with e;subst e;refine (AnyG.slices_Clone_int zfq b off n cap xs w om om (λj hj=>hc j om)).mono ?_;rintro e w' ⟨v,rfl,k1,_,k2⟩;rw[take_of_length_le om]at k1;exact⟨v,rfl,k1,k2⟩
theorem zoH(w:World)(a:Option Addr)(cap:Nat)(x:Int):
  Calls prog 182 #[.slice a 0 cap,.int .i64 x] w λe w'=>e= .returned (.tuple #[.int .i64 0,.bool false])/\w'=w:=by
 go_enter func182,ntmps182;go_wp2
 go_loopg [7,8] 0 (λ_ s7 s8 wr=>s7= .int .i64 0/\s8= .int .i64 0/\wr=w)
 case atStart=>exact⟨rfl,rfl,rfl⟩
 case round=>
  obtain⟨rfl,rfl,rfl⟩:=hrel;go_wp2;go_ret2;exact⟨rfl,rfl⟩
theorem zq8{a:Option Addr}(h:Row w a n xs)(hn:n<=100000)(hs:xs.Pairwise (·<=·))(x:Int):
  Calls prog 182 #[.slice a n cap,.int .i64 x] w λe w'=>e= .returned (.tuple #[.int .i64 (zhG xs x:Nat),.bool (decide (x∈xs))])/\∃q,w'=w.drewN q:=by
 have hl:=h.1
 by_cases h0:n=0
 ·subst h0;have hx:xs=[]:=eq_nil_of_length_eq_zero hl;subst hx;refine (zoH w a cap x).mono ?_;rintro e w' ⟨rfl,rfl⟩;exact⟨rfl,0,rfl⟩
 ·rcases h.2.2 with c | ⟨b,off,e,hc⟩
  ·exact absurd c h0
  ·subst e;refine (AnyG.slices_BinarySearch_int zq1 b off n cap xs x w om om (λj hj=>hc j om) (by rw[take_of_length_le om];exact hs)).mono ?_;rintro e w' ⟨rfl,q,rfl⟩;rw[take_of_length_le om];refine⟨?_,q,rfl⟩;rw[show xs.contains x=decide (x∈xs) from by simp];rfl
theorem OwnD.cells{base:Nat}(h:OwnD w base (.slice (some ⟨g,0,none⟩) n cap) n xs):∃X:List Value,Blk w g 81 X.toArray/\X.length=cap/\X.take n=xs.map (Value.int .i64)/\n<=cap/\cap<=maxLen/\base<=g:=by
 rcases h.2 with ⟨e,_⟩ | ⟨g',cap',cur,e,hb,hg,dA,hm,hs,ht⟩
 ·injection e with e _ _
  cases e
 ·injection e with e1 _ e3;injection e1 with e1;injection e1 with e1 _ _;subst e1 e3;refine⟨cur.toList,by unfold Blk;rw[Array.toArray_toList];exact hg,by rw[Array.length_toList];omega,by rw[Nat.mul_one]at ht;exact ht,dA,hm,hb⟩
theorem OwnD.of_cells{base:Nat}(hb:Blk w g 81 X.toArray)(hl:X.length=cap)(ht:X.take n=xs.map (Value.int .i64))(hn:n<=cap)(hm:cap<=maxLen)(hg:base<=g):OwnD w base (.slice (some ⟨g,0,none⟩) n cap) n xs:=by
 have e:=congrArg length ht;rw[length_take,length_map]at e;exact⟨by rw[length_map,Nat.mul_one];omega,.inr ⟨g,cap,X.toArray,rfl,hg,hb,hn,hm,by simp[hl],by rw[Nat.mul_one];exact ht⟩⟩
theorem OwnD.at_{base:Nat}(h:OwnD w base (.slice (some ⟨g,0,none⟩) n cap) n xs){j:Nat}{x:Int}(hx:xs[j]? =some x):w.cell? ⟨g,j,none⟩=some (.int .i64 x):=by
 obtain⟨X,hb,hl,ht,hn,hm,_⟩:=h.cells;have hj:j<n:=by have:=(List.getElem?_eq_some_iff.1 hx).1;have:=h.len;omega
 rw[hb.cell];have:(X.take n)[j]? =(xs.map (Value.int .i64))[j]? :=by rw[ht]
 rw[getElem?_take_of_lt hj,getElem?_map,hx]at this;simpa using this
theorem OwnD.some_{base:Nat}(h:OwnD w base (.slice (some ⟨g,0,none⟩) n cap) n xs){j:Nat}(hj:j<cap):(w.cell? ⟨g,j,none⟩).isSome=true:=by
 obtain⟨X,hb,hl,ht,hn,hm,_⟩:=h.cells;rw[hb.cell];simp[hl,hj]
theorem OwnD.frozen{base:Nat}(h:OwnD w base (.slice (some ⟨g,0,none⟩) n cap) n xs)(j:Nat):w.frozen? ⟨g,j,none⟩=false:=by
 obtain⟨X,hb,_⟩:=h.cells;exact hb.frozen j
theorem zlP(l:List Int):∀v∈l.map (Value.int .i64),v.oneCell'=true:=λv hv=>by
 obtain⟨y,_,rfl⟩:=mem_map.1 hv;rfl
theorem zlQ(ht:X.take n=xs.map (Value.int .i64))(hl:n+1<=X.length)(hx:xs.length=n)(hi:i<=n):
  (zaM (zaM X (i+1) ((xs.drop i).map (Value.int .i64))) i [.int .i64 c]).take (n+1)=(xs.take i++c::xs.drop i).map (Value.int .i64):=by
 have hd:((xs.drop i).map (Value.int .i64)).length=n - i:=by rw[length_map,length_drop];omega
 have h1:X.take i=(xs.take i).map (Value.int .i64):=by rw[map_take,<-ht,take_take,Nat.min_eq_left hi]
 have h2:(X.take (i+1)++(xs.drop i).map (Value.int .i64)++X.drop (i+1+((xs.drop i).map (Value.int .i64)).length)).take i=X.take i:=by
  rw[append_assoc,take_append_of_le_length (by rw[length_take];omega),take_take,Nat.min_eq_left om]
 have h3:(X.take (i+1)++(xs.drop i).map (Value.int .i64)++X.drop (i+1+((xs.drop i).map (Value.int .i64)).length)).drop (i+1)=(xs.drop i).map (Value.int .i64)++X.drop (n+1):=by
  rw[append_assoc,drop_append_of_le_length (by rw[length_take];omega),drop_take,Nat.sub_self,take_zero,nil_append,hd,show i+1+(n - i)=n+1 by omega]
 unfold zaM;rw[show i+[Value.int .i64 c].length=i+1 from rfl,h2,h3,h1,map_append,map_cons];rw[append_assoc,show ([Value.int .i64 c]++((xs.drop i).map (Value.int .i64)++X.drop (n+1)))=(Value.int .i64 c::(xs.drop i).map (Value.int .i64))++X.drop (n+1) from rfl,<-append_assoc];rw[take_append_of_le_length (by rw[length_append,length_map,length_take,length_cons,hd];omega)];exact take_of_length_le (by rw[length_append,length_map,length_take,length_cons,hd];omega)
theorem zoI{base:Nat}(h:OwnD w base (.slice (some ⟨b,0,none⟩) n cap) n xs)(hv:Blk w vb 81 #[.int .i64 c])(Vg:vb≠b)(hi:i<n)(Dj:n+1<=cap):
  Calls prog 184 #[.slice (some ⟨b,0,none⟩) n cap,.int .i64 i,.slice (some ⟨vb,0,none⟩) 1 1] w λe w'=>
   e= .returned (.slice (some ⟨b,0,none⟩) (n+1) cap)/\w'=(w.drew.setCells b (i+1) ((xs.drop i).map (Value.int .i64))).setCells b i [.int .i64 c]:=by
 have kh:=h.len;have mixed:prog.follows Departure.mixedOrders=true:=oM;obtain⟨X,kM,Qb,_,_,hm,_⟩:=h.cells;unfold maxLen at hm;have kH:¬((i:Int)=(n:Int)):=om;have Ks:(prog.info? 81).map (·.size)=some 1:=by
  obtain⟨i0,ku,h0,h1,h2⟩:=info_parts zcr;rw[ku];simp[h1]
 have TP:w.shape? vb=some (81,1):=by
  unfold World.shape?;rw[show w.heap[vb]? =_ from hv];rfl
 have Yl:w.shape? b=some (81,cap):=by
  unfold World.shape?;rw[show w.heap[b]? =_ from kM];simp[Qb]
 have Vh:∀lb cb,(callFunc 245 #[.slice (some ⟨vb,0,none⟩) 1 1,.slice (some ⟨b,i+1,none⟩) lb cb]).run prog w= .ok (.value (.bool false)) w:=λlb cb=>by
  rw[run_callFunc_extern func245 oM oM oM (e:=Extern.SlicesOverlaps.overlaps #[35,35] #[4]) oM,
   Lib.run_overlaps_apart w 35 4 81 underlying35 1 sizeOf81 ⟨vb,0,none⟩ ⟨b,i+1,none⟩ 1 1 lb cb Vg 81 81 1 cap TP Yl om (hv.frozen 0) (hv.frozen 1)]
  rfl
 have xc:((xs.drop i).map (Value.int .i64)).length=n - i:=by rw[length_map,length_drop,kh]
 have xA:IntKind.i64.wrap ((i:Int)+1)=(i:Int)+1:=by rw[IntKind.wrap_i64];omega
 have Hv:(0:Int)<=(i:Int)+1:=om;have hin:i<=n:=om;have mq:((i:Int)+1).toNat=i+1:=om;have Kd:¬(cap=i+1):=om;have KL:(i:Int)<=(n:Int)+1:=om;have EP:¬(cap=i):=om;have zz:¬((cap:Int)<(n:Int)+1):=om;obtain⟨D,hD⟩:∃D,D=(xs.drop i).map (Value.int .i64):=⟨_,rfl⟩;have jb:∀ty dc sc,(Builtin.copy_ #[35,35] ty #[.slice (some ⟨b,i+1,none⟩) (n - i) dc,.slice (some ⟨b,i,none⟩) (n+1 - i) sc]).run prog w.drew= .ok (goInt D.length) (w.drew.setCells b (i+1) D):=λty dc sc=>
  run_copy_cells w.drew _ _ ty 81 b (i+1) (n - i) dc ⟨b,i,none⟩ (n+1 - i) sc D underlying35 Ks (by rw[hD,xc];simp only[Nat.min_def];split <;> omega)
   (λj v hj=>by
    rw[Addr.add_lit];rw[hD,getElem?_map,getElem?_drop]at hj
    cases hq:xs[i+j]? with
    | none=>rw[hq]at hj;cases hj
    | some y=>
     rw[hq]at hj;injection hj with hj;rw[<-hj]
     exact h.at_ hq)
   (λj hj=>by rw[hD,xc]at hj;exact h.some_ om) (λj hj=>h.frozen _) (by rw[hD];exact zlP _)
 obtain⟨W1,dK⟩:∃W1,W1=w.drew.setCells b (i+1) D:=⟨_,rfl⟩;have jc:∀j,j<n+1->(W1.cell? ⟨b,j,none⟩).isSome=true:=λj hj=>by
  rw[dK];exact isSome_setCells b _ _ _ (λq hq=>by rw[hD,xc]at hq;exact h.some_ om) _ (h.some_ om)
 have Sa:∀ (W:World),(∀x,W.cell? x=W1.cell? x)->(∀x,W.frozen? x=W1.frozen? x)->∀ty dc,(Builtin.copy_ #[35,35] ty #[.slice (some ⟨b,i,none⟩) (n+1 - i) dc,.slice (some ⟨vb,0,none⟩) 1 1]).run prog W= .ok (goInt 1) (W.setCells b i [.int .i64 c]):=λW zA jd ty dc=>
  run_copy_cells W _ _ ty 81 b i (n+1 - i) dc ⟨vb,0,none⟩ 1 1 [.int .i64 c] underlying35 Ks (by show 1=_;simp only[Nat.min_def];split <;> omega)
   (λj v hj=>by
    rw[Addr.add_lit,zA,dK,World.cell?_setCells_out b _ _ _ _ (λh _=>absurd h Vg),Nat.zero_add];have:=hv.cell j;rw[show w.drew.cell? ⟨vb,j,none⟩=w.cell? ⟨vb,j,none⟩ from rfl,this]
    simpa using hj)
   (λj hj=>by rw[zA];exact jc _ (by simp at hj;omega)) (λj hj=>by rw[jd,dK,World.frozen?_setCells];exact h.frozen _) (by intro u hu;simp at hu;subst hu;rfl)
 rw[<-dK]at jb;rw[<-hD,<-dK];clear hD jc TP Yl Ks xc kM Qb;go_enter func184,ntmps184;go_wp2_with (simp only[Vh])
 go_region_law_o (refine step_copy_runI rfl _ _ 35 35 rfl _ _ (by simp[Act.eval,Act.put]) (by simp[Act.eval,Act.put]) (jb _ _ _) ?_)
 go_wp2_with (at_builtin;refine wpList_copy_runI _ rfl _ _ 35 35 rfl _ _ rfl rfl (Sa _ (λ_=>rfl) (λ_=>rfl) _ _) ?_);go_ret;exact⟨rfl,by rw[dK]⟩
theorem ztF{base:Nat}(h:OwnD w base v n xs)(kj:base<=w.heap.size)(hv:Blk w vb 81 #[.int .i64 c])(hn:n<=100000):
  Calls prog 184 #[v,.int .i64 n,.slice (some ⟨vb,0,none⟩) 1 1] w λe w'=>
   ∃v',e= .returned v'/\OwnD w' base v' (n+1) (xs++[c])/\w.grownBy w' v.ownBlock/\(v'.ownBlock=v.ownBlock∨v'.ownBlock=some w.heap.size):=by
 obtain⟨i0,ku,kO,kP,kH⟩:=info_parts zcr;have HI:=kA (And.intro ku (And.intro kO (And.intro kP kH)));have HO:=kA h
 have HV:Hid (∀j u,[Value.int .i64 c][j]? =some u->w.cell? ((⟨vb,0,none⟩:Addr).add j)=some u):=kA (λj u hj=>by
  rw[Addr.add_lit,Nat.zero_add,hv.cell j]
  simpa using hj)
 clear ku kO kP kH hv;rcases h.2 with ⟨rfl,h0⟩ | ⟨g,cap,cur,rfl,hb,hg,dA,hm,hs,ht⟩
 ·subst h0;clear h;go_enter func184,ntmps184;go_wp2_with (at_builtin;refine wpList_append_own_at _ rfl (.tmp 23) (.tmp 24) 35 rfl base 81 i0 (.int .i64 0) 1 8 underlying35 HI.1 HI.2.1 HI.2.2.1 HI.2.2.2 rfl (by decide) _ _ _ rfl HO ⟨vb,0,none⟩ 1 1 [.int .i64 c] rfl rfl HV (by intro u hu;simp at hu;subst hu;rfl) (by unfold maxLen;omega) om kj ?_);intro v' w' k1 k2 _ k3;have K:Hid (OwnD w' base v' (0+1) (xs++[c])/\w.grownBy w' (Value.slice none 0 0).ownBlock/\(v'.ownBlock=(Value.slice none 0 0).ownBlock∨v'.ownBlock=some w.heap.size)):=kA ⟨by unfold OwnD;rw[map_append];exact k1,k2,k3⟩;clear k1 k2 k3;go_wp2;go_ret;exact⟨_,rfl,K⟩
 ·clear hb hg hs ht h;unfold maxLen at hm;go_enter func184,ntmps184;go_wp2_with (at_builtin;refine wpList_append_own_at _ rfl (.tmp 23) (.tmp 24) 35 rfl base 81 i0 (.int .i64 0) 1 8 underlying35 HI.1 HI.2.1 HI.2.2.1 HI.2.2.2 rfl (by decide) _ _ _ rfl HO ⟨vb,0,none⟩ 1 1 [.int .i64 c] rfl rfl HV (by intro u hu;simp at hu;subst hu;rfl) (by unfold maxLen;omega) om kj ?_)
  all_goals (
    intro v' w' k1 k2 _ k3;have K:Hid (OwnD w' base v' (n+1) (xs++[c])/\w.grownBy w' (Value.slice (some ⟨g,0,none⟩) n cap).ownBlock/\(v'.ownBlock=(Value.slice (some ⟨g,0,none⟩) n cap).ownBlock∨v'.ownBlock=some w.heap.size)):=kA ⟨by unfold OwnD;rw[map_append];exact k1,k2,k3⟩;clear k1 k2 k3;go_wp2;go_ret
    exact⟨_,rfl,K⟩)
theorem zq9{base:Nat}(h:OwnD w base (.slice (some ⟨b,0,none⟩) n cap) n xs)(hv:Blk w vb 81 #[.int .i64 c])(hi:i<n)(Dj:cap<n+1)(hn:n<=100000):
  Calls prog 184 #[.slice (some ⟨b,0,none⟩) n cap,.int .i64 i,.slice (some ⟨vb,0,none⟩) 1 1] w λe w'=>
   ∃ (G:Nat) (ROW:List Value),e= .returned (.slice (some ⟨w.heap.size,0,none⟩) (n+1) G)/\n+1<=G/\G<=maxLen/\ROW.length=G/\ROW.take i=(xs.take i).map (Value.int .i64)/\
    w'=(((w.alloc (.cells ROW.toArray 81)).drew.setCells w.heap.size i [.int .i64 c]).drew).setCells w.heap.size (i+1) ((xs.drop i).map (Value.int .i64)):=by
 have kh:=h.len;have mixed:prog.follows Departure.mixedOrders=true:=oM;obtain⟨X,kM,Qb,Sb,ZF,hm,_⟩:=h.cells;unfold maxLen at hm;obtain⟨i0,ku,kO,dW,ZN⟩:=info_parts zcr;have kH:¬((i:Int)=(n:Int)):=om;have EQ:(cap:Int)<(n:Int)+1:=om;have Ks:(prog.info? 81).map (·.size)=some 1:=by rw[ku];simp[dW]
 have dJ:=kM.lt;have mr:=hv.lt;have ZL:(n:Int)+1 - (i:Int)=((n+1 - i:Nat):Int):=om;have Xj:i+(n+1 - i)=n+1:=om;obtain⟨A,hA⟩:∃A,A=(xs.take i).map (Value.int .i64):=⟨_,rfl⟩;have Vi:A.length=i:=by rw[hA,length_map,length_take];omega
 have hold:(Builtin.firstCells i0.size i (.slice (some ⟨b,0,none⟩) i cap)).run prog w.drew= .ok A.toArray w.drew:=by
  rw[dW]
  exact run_firstCells_some w.drew 1 i ⟨b,0,none⟩ i cap A om (λj v hj=>by
   rw[Addr.add_lit,Nat.zero_add];rw[hA,getElem?_map]at hj
   cases hq:(xs.take i)[j]? with
   | none=>rw[hq]at hj;cases hj
   | some y=>
    rw[hq]at hj;injection hj with hj;rw[<-hj];rw[getElem?_take]at hq
    split at hq
    ·exact h.at_ hq
    ·cases hq)
 have zC:∀ty,(Builtin.append_ #[35,3] ty #[.slice (some ⟨b,0,none⟩) i cap,.int .i64 ((n:Int)+1 - (i:Int))]).run prog w=
   .ok (.slice (some ⟨w.heap.size,0,none⟩) (n+1) (grownCap w (n+1) cap 81)) (w.drew.alloc (.cells (A.toArray++Builtin.zeroCells (Value.int .i64 0).cells (n+1 - i)++Builtin.zeroCells (Value.int .i64 0).cells (grownCap w (n+1) cap 81 - (n+1))) 81)):=λty=>by
  have h:=Lib.run_append_grow_zeros w 35 3 ty 81 i0 _ .i64 .i64 underlying35 underlying3 ku kO (some ⟨b,0,none⟩) i cap A hold (n+1 - i) om om om om (by rw[ZN];omega) (by rw[ZN,Xj];exact growslice_fits Dj om);rw[Xj]at h;rw[ZL];exact h
 obtain⟨G,hG⟩:∃G,G=grownCap w (n+1) cap 81:=⟨_,rfl⟩;have Sd:n+1<=G:=by rw[hG];exact grownCap_ge w _ _ _
 have je:G<=9223372036854775807:=by
  have:=grownCap_le_maxLen w (n+1) cap 81 (by unfold maxLen;omega);rw[<-hG]at this;unfold maxLen at this;omega
 obtain⟨ROW,Ci⟩:∃ROW:List Value,ROW=(A.toArray++Builtin.zeroCells (Value.int .i64 0).cells (n+1 - i)++Builtin.zeroCells (Value.int .i64 0).cells (G - (n+1))).toList:=⟨_,rfl⟩;have TQ:A.toArray++Builtin.zeroCells (Value.int .i64 0).cells (n+1 - i)++Builtin.zeroCells (Value.int .i64 0).cells (G - (n+1))=ROW.toArray:=by rw[Ci,Array.toArray_toList]
 rw[<-hG]at zC;simp only[TQ]at zC;have TS:ROW.length=G:=by
  rw[Ci];simp[Builtin.zeroCells,Value.cells,Vi];omega
 have s6:Hid (ROW.take i=(xs.take i).map (Value.int .i64)):=kA (by
  rw[Ci,<-hA,Array.toList_append,Array.toList_append,append_assoc,take_append_of_le_length (by simp[Vi]),take_of_length_le (by simp[Vi])])
 have xD:=kA (And.intro Sd (And.intro je TS));obtain⟨W1,dK⟩:∃W1,W1=w.drew.alloc (.cells ROW.toArray 81):=⟨_,rfl⟩;rw[<-dK]at zC;have hN:∀j,j<n+1->(W1.cell? ⟨w.heap.size,j,none⟩).isSome=true:=λj hj=>by
  rw[dK,World.cell?_alloc_at (w:=w.drew) ROW.toArray _ w.heap.size j rfl,Array.getElem?_eq_getElem (by simp;omega)];rfl
 have Se:∀j,W1.frozen? ⟨w.heap.size,j,none⟩=false:=λj=>by rw[dK];exact World.frozen?_alloc_at (w:=w.drew) ROW.toArray _ w.heap.size j rfl
 have TT:∀j v,w.cell? ⟨b,j,none⟩=some v->W1.cell? ⟨b,j,none⟩=some v:=λj v h=>by rw[dK,World.cell?_alloc_past (w:=w.drew) _ b j dJ];exact h
 have TU:∀j v,w.cell? ⟨vb,j,none⟩=some v->W1.cell? ⟨vb,j,none⟩=some v:=λj v h=>by rw[dK,World.cell?_alloc_past (w:=w.drew) _ vb j mr];exact h
 have Sf:∀ (W:World),(∀x,W.cell? x=W1.cell? x)->(∀x,W.frozen? x=W1.frozen? x)->∀ty dc,(Builtin.copy_ #[35,35] ty #[.slice (some ⟨w.heap.size,i,none⟩) (n+1 - i) dc,.slice (some ⟨vb,0,none⟩) 1 1]).run prog W= .ok (goInt 1) (W.setCells w.heap.size i [.int .i64 c]):=λW zA jd ty dc=>
  run_copy_cells W _ _ ty 81 w.heap.size i (n+1 - i) dc ⟨vb,0,none⟩ 1 1 [.int .i64 c] underlying35 Ks (by show 1=_;simp only[Nat.min_def];split <;> omega)
   (λj v hj=>by
    rw[Addr.add_lit,zA,Nat.zero_add];refine TU j v ?_;rw[hv.cell j]
    simpa using hj)
   (λj hj=>by rw[zA];exact hN _ (by simp at hj;omega)) (λj hj=>by rw[jd];exact Se _) (by intro u hu;simp at hu;subst hu;rfl)
 have ER:¬(G=i):=om;have my:¬(G=i+1):=om;have sY:¬(cap=i):=om;have ZO:b≠w.heap.size:=om;obtain⟨D,hD⟩:∃D,D=(xs.drop i).map (Value.int .i64):=⟨_,rfl⟩;have xc:D.length=n - i:=by rw[hD,length_map,length_drop,kh]
 have Sg:∀ (W:World),(∀x,W.cell? x=(W1.setCells w.heap.size i [.int .i64 c]).cell? x)->(∀x,W.frozen? x=(W1.setCells w.heap.size i [.int .i64 c]).frozen? x)->∀ty dc sc,(Builtin.copy_ #[35,35] ty #[.slice (some ⟨w.heap.size,i+1,none⟩) (n - i) dc,.slice (some ⟨b,i,none⟩) (n - i) sc]).run prog W= .ok (goInt D.length) (W.setCells w.heap.size (i+1) D):=λW zA jd ty dc sc=>
  run_copy_cells W _ _ ty 81 w.heap.size (i+1) (n - i) dc ⟨b,i,none⟩ (n - i) sc D underlying35 Ks (by rw[xc];simp only[Nat.min_def];split <;> omega)
   (λj v hj=>by
    rw[Addr.add_lit,zA,World.cell?_setCells_out _ _ _ _ _ (λh _=>absurd h ZO)];refine TT _ v ?_;rw[hD,getElem?_map,getElem?_drop]at hj
    cases hq:xs[i+j]? with
    | none=>rw[hq]at hj;cases hj
    | some y=>
     rw[hq]at hj;injection hj with hj;rw[<-hj]
     exact h.at_ hq)
   (λj hj=>by rw[zA];exact isSome_setCells _ _ _ _ (λt ht=>hN _ (by simp at ht;omega)) _ (hN _ om))
   (λj hj=>by rw[jd,World.frozen?_setCells];exact Se _) (by rw[hD];exact zlP _)
 subst dK;have mA:∀x,((w.alloc (.cells ROW.toArray 81)).drew).cell? x=(w.drew.alloc (.cells ROW.toArray 81)).cell? x:=λx=>rfl;have mB:∀x,((w.alloc (.cells ROW.toArray 81)).drew).frozen? x=(w.drew.alloc (.cells ROW.toArray 81)).frozen? x:=λx=>rfl;have xd:∀x,(((w.alloc (.cells ROW.toArray 81)).drew.setCells w.heap.size i [.int .i64 c]).drew).cell? x=((w.drew.alloc (.cells ROW.toArray 81)).setCells w.heap.size i [.int .i64 c]).cell? x:=λx=>rfl;have Yx:∀x,(((w.alloc (.cells ROW.toArray 81)).drew.setCells w.heap.size i [.int .i64 c]).drew).frozen? x=((w.drew.alloc (.cells ROW.toArray 81)).setCells w.heap.size i [.int .i64 c]).frozen? x:=λx=>rfl;have xA:IntKind.i64.wrap ((i:Int)+1)=(i:Int)+1:=by rw[IntKind.wrap_i64];omega
 have Hv:(0:Int)<=(i:Int)+1:=om;have hin:i<=n:=om;have mq:((i:Int)+1).toNat=i+1:=om;have KL:(i:Int)<=(n:Int):=om;rw[<-hD];clear ZL Xj hold Ci TQ hG TS hA Vi hN Se TT TU Sb Qb kM Ks dW ZN ku kO hD;go_enter func184,ntmps184
 go_wp2_with (first
  | (at_builtin;refine Lib.wpList_append_run _ rfl _ _ _ _ rfl _ _ rfl rfl _ _ (zC _) ?_)
  | (at_builtin;refine wpList_copy_runI _ rfl _ _ 35 35 rfl _ _ rfl rfl (Sf _ mA mB _ _) ?_))
 go_region_law_o (refine step_copy_runI rfl _ _ 35 35 rfl (.slice (some ⟨w.heap.size,i+1,none⟩) (n - i) (G - (i+1))) (.slice (some ⟨b,i,none⟩) (n - i) (cap - i)) (by simp[Act.eval,Act.put]) (by simp[Act.eval,Act.put]) (Sg _ xd Yx 3 (G - (i+1)) (cap - i)) ?_)
 go_wp2;go_ret;exact⟨G,ROW,rfl,xD.1,by unfold maxLen;exact xD.2.1,xD.2.2,s6.out,rfl⟩
end Go.Proofs.YtlibdcmcbinfnaaGreat
