/- Lemmas. -/
import Derived.Test.YtlibdcmcbinfnaaGreatMS15
set_option maxHeartbeats 100000000
set_option maxRecDepth 1000000
namespace Go.Proofs.YtlibdcmcbinfnaaGreat
open _root_.Go.Proofs.Tryz List Nat
open Go.RowKit
variable{L:List Nd}{x:Int}{w:World}
theorem ziI(h:0<=zaq L x):∃n∈L,n.id=x:=by
 cases hx:elF Nd.id L x with
 | none=>rw[zb9 hx]at h;omega
 | some n=>
  obtain⟨k,_,hk,_,e⟩:=zqS hx;exact⟨n,mem_of_getElem? hk,e⟩
theorem zgc(h:0<=zaq L x):∃n∈L,n.id=zaq L x:=by
 cases hx:elF Nd.id L x with
 | none=>rw[zb9 hx]at h;omega
 | some n=>
  rw[zbm hx]at h ⊢
  by_cases c:n.par<0∨(elF Nd.id L n.par).isNone=true
  ·rw[if_pos c]at h;omega
  ·rw[if_neg c]
   cases hp:elF Nd.id L n.par with
   | none=>exact absurd (.inr (by rw[hp];rfl)) c
   | some m=>
    obtain⟨k,_,hk,_,e⟩:=zqS hp;exact⟨m,mem_of_getElem? hk,e⟩
theorem zeQ{y:Int}:(x,y)∈zaj L↔(∃n∈L,n.id=x)/\0<=zaq L x/\y=zaq L x:=by
 unfold zaj;rw[mem_filterMap];constructor
 ·rintro⟨n,hn,h⟩
  by_cases c:0<=zaq L n.id
  ·rw[if_pos c]at h;injection h with h;injection h with h1 h2;subst h1;exact⟨⟨n,hn,rfl⟩,c,h2.symm⟩
  ·rw[if_neg c]at h;cases h
 ·rintro⟨⟨n,hn,rfl⟩,c,rfl⟩;exact⟨n,hn,by rw[if_pos c]⟩
theorem zgX(L:List Nd):(zaj L).map Prod.fst=(L.filter (λn=>decide (0<=zaq L n.id))).map Nd.id:=by
 have key:∀M:List Nd,(M.filterMap (λn=>if 0<=zaq L n.id then some (n.id,zaq L n.id) else none)).map Prod.fst=(M.filter (λn=>decide (0<=zaq L n.id))).map Nd.id:=by
  intro M
  induction M with
  | nil=>rfl
  | cons m M ih=>
   by_cases c:0<=zaq L m.id
   ·rw[filterMap_cons_some (b:=(m.id,zaq L m.id)) (by rw[if_pos c]),filter_cons_of_pos (by simpa using c),map_cons,map_cons,ih]
   ·rw[filterMap_cons_none (by rw[if_neg c]),filter_cons_of_neg (by simpa using c),ih]
 exact key L
theorem zdP(h:(L.map Nd.id).Nodup):((zaj L).map Prod.fst).Nodup:=by
 rw[zgX];exact h.sublist (List.Sublist.map _ filter_sublist)
theorem zjV(L:List Nd):(zaj L).length<=L.length:=by
 unfold zaj;exact length_filterMap_le _ _
theorem zav(h:(L.map Nd.id).Nodup)(x:Int):zak (zaj L) x=if 0<=zaq L x then some (zaq L x) else none:=by
 by_cases c:0<=zaq L x
 ·rw[if_pos c];exact zcG (zdP h) (zeQ.2 ⟨ziI c,c,rfl⟩)
 ·rw[if_neg c]
  cases hp:zak (zaj L) x with
  | none=>rfl
  | some y=>exact absurd (zeQ.1 (zbo hp)).2.1 c
theorem zlG(h:(L.map Nd.id).Nodup)(hr:∀n∈L,zhz L n.id=false):WF (zaj L):=by
 refine⟨zdP h,?_⟩;have key:∀ (k:Nat) (y:Int),zgV L k y<0->y<0∨∃l,IsA (zaj L) y l:=by
  intro k
  induction k with
  | zero=>exact λy hy=>Or.inl hy
  | succ k ih=>
   intro y hy
   by_cases c:0<=y
   ·refine .inr ?_;have hy':zgV L k (zaq L y)<0:=by
     have:zgV L (k+1) y=zgV L k (zaq L y):=by show (if 0<=y then _ else _)=_;rw[if_pos c]
     rw[<-this];exact hy
    by_cases d:0<=zaq L y
    ·rcases ih _ hy' with q | ⟨l,hl⟩
     ·omega
     ·exact⟨zaq L y::l,by rw[zav h,if_pos d],hl⟩
    ·exact⟨[],by show zak _ _=none;rw[zav h,if_neg d]⟩
   ·exact .inl om
 intro x
 by_cases d:0<=zaq L x
 ·obtain⟨n,hn,e⟩:=ziI d;have h1:=hr n hn;rw[e]at h1;unfold zhz at h1;have h2:=of_decide_eq_false h1;rcases key (L.length+1) (zaq L x) om with q | ⟨l,hl⟩
  ·omega
  ·exact⟨zaq L x::l,by rw[zav h,if_pos d],hl⟩
 ·exact⟨[],by show zak _ _=none;rw[zav h,if_neg d]⟩
structure RW (w:World) (g:Nat) (D:FD) (vl vd vs:Value):Prop where
 blk:Blk w g 38 #[vl,vd,.bool D.begun,vs,.int .i64 D.steps]
 nod:OwnX 15 cNd 163 w 0 vl D.L
 dir:OwnD w 0 vd D.dirty.length D.dirty
 sts:OwnX 14 cSt 173 w 0 vs D.sts
 ol:∀b,vl.ownBlock=some b->b≠g/\vd.ownBlock≠some b/\vs.ownBlock≠some b
 od:∀b,vd.ownBlock=some b->b≠g/\vs.ownBlock≠some b
 os:∀b,vs.ownBlock=some b->b≠g
def zyC(g:Nat)(vl vd vs:Value)(b:Nat):Prop:=b=g∨vl.ownBlock=some b∨vd.ownBlock=some b∨vs.ownBlock=some b
section
variable {w w':World} {g:Nat} {D:FD} {vl vd vs:Value} {F:Nat->Prop}
theorem zdQ{w':World}{base n:Nat}{v:Value}{zs:List Int}(h:OwnD w base v n zs)(he:∀b,v.ownBlock=some b->w'.heap[b]? =w.heap[b]?):OwnD w' base v n zs:=
 ⟨h.1,h.2.imp id λ⟨g,cap,cur,e,hb,hg,hr⟩=>⟨g,cap,cur,e,hb,(he g (by rw[e];rfl)).trans hg,hr⟩⟩
end
theorem zaw(w:World):Bw w w.drew:=⟨rfl,rfl,rfl,Nat.le_refl _,λ_ _=>rfl⟩
theorem zjW{ops:Array Oper}{rest:List Oper}{op:Oper}{a:Go.Act}{Q:Exit->Go.Act->World->Prop}(kX:op.guard=none)(t:TypeId)(ho:op.op= .build t #[])(vr:Value)
  (Hi:∀W,(Instr.build t #[]).run prog W= .ok vr W)
  (h:wpList prog ops Q rest (a.put op.dst vr) w):wpList prog ops Q (op::rest) a w:=
 wpList_plain kX λK hK=>by
  have h2:=hK _ _ h;unfold Oper.wp execOp;simp only[ho];simp[Hi];exact h2
def zSt:Stt:=⟨0,λ_=>0,false⟩
structure SX (X:List Value) (s:Stt):Prop where
 eq:X=cSt s
 len:X.length=14
 size:(prog.info? 173).map (·.size)=some X.length
 sizea:(prog.info? 173).map (·.size)=some X.toArray.size
 one:∀u∈X,u.oneCell'=true
 onea:X.toArray.all (·.oneCell')=true
def lM(M:Nat->Int):List Value:=[.int .i64 (M 0),.int .i64 (M 1),.int .i64 (M 2),.int .i64 (M 3),.int .i64 (M 4),.int .i64 (M 5),.int .i64 (M 6),.int .i64 (M 7),.int .i64 (M 8),.int .i64 (M 9),.int .i64 (M 10),.int .i64 (M 11)]
structure MX (X:List Value) (M:Nat->Int):Prop where
 eq:X=lM M
 len:X.length=12
 size:(prog.info? 46).map (·.size)=some X.length
 sizea:(prog.info? 46).map (·.size)=some X.toArray.size
 onea:X.toArray.all (·.oneCell')=true
theorem zm4(M:Nat->Int):∀u∈lM M,u.oneCell'=true:=λu hu=>by
 unfold lM at hu;simp only[mem_cons,not_mem_nil,or_false]at hu;rcases hu with h | h | h | h | h | h | h | h | h | h | h | h <;> (rw[h];rfl)
theorem zjX(M:Nat->Int):MX (lM M) M:=⟨rfl,rfl,oM,oM,all_oneCell_toArray (zm4 M)⟩
def ChX{δ:Type}(FB:World->Nat->(Nat->Prop)->δ->Prop)(w w':World)(g:Nat)(F:Nat->Prop)(D:δ):Prop:=∃F',FB w' g F' D/\Fr w w' F/\∀b,F' b->F b∨w.heap.size<=b
section
variable {w wb w4:World} {g:Nat} {D:FD} {vl vd vs:Value} {F:Nat->Prop}
theorem zjY{g o q:Nat}{u:Value}(hq:q≠g):(w.setCell ⟨g,o,none⟩ u).heap[q]? =w.heap[q]? :=Go.Deep.blk_setCell_other _ _ _ _ hq
end
end Go.Proofs.YtlibdcmcbinfnaaGreat
