/- Lemmas. -/
import Derived.Test.YtlibdcmcbinfnaaGreatMS34
import Derived.Maps.RangeWalk
set_option maxHeartbeats 100000000
set_option maxRecDepth 1000000
namespace Go.Proofs.YtlibdcmcbinfnaaGreat
open _root_.Go.Proofs.Tryz List Nat
open Go.RowKit
theorem znO(G:Nat->Int)(L:Nat->Bool):∀k,k<=256->(∀i,0<=G i)->(zd3 G L k).Nodup
 | k,hk,hG=>by
  unfold zd3;refine List.pairwise_map.2 ((List.Pairwise.filter _ pairwise_lt_range).imp_of_mem fun {a b} ha hb h e=> ?_);rw[mem_filter,mem_range]at ha hb;unfold nm at e;have:=hG a;have:=hG b;omega
def chK(lt:Nat->Int)(since:Int)(l:List Int):List Int:=l.filter λx=>decide (since<lt (x % 256).toNat)
theorem zrY:∀ (l:List (Int × Int)),(l.map Prod.fst).Nodup->∀x a b,(x,a)∈l->(x,b)∈l->a=b
 | [],_,x,a,b,h,_=>by cases h
 | (y,c)::l,hn,x,a,b,ha,hb=>by
  rw[map_cons,nodup_cons]at hn;rcases mem_cons.1 ha with ea | jH
  ·rcases mem_cons.1 hb with eb | qu
   ·injection ea with _ ea;injection eb with _ eb;rw[ea,eb]
   ·injection ea with ea _;exact absurd (mem_map.2 ⟨_,qu,ea⟩) hn.1
  ·rcases mem_cons.1 hb with eb | qu
   ·injection eb with eb _;exact absurd (mem_map.2 ⟨_,jH,eb⟩) hn.1
   ·exact zrY l hn.2 x a b jH qu
variable{S:St}{x y:Int}{xs:List Int}{k g m j n l mb:Nat}{w:World}{F:Nat->Prop}{D:FD}{R' R L:List Rc}{E:XS}
theorem zxs{ls lt:Nat->Int}(hI:LI S ls lt)(hW:WS S)(since:Int):(chK lt since (alS S)).Perm ((S.ch.filter λx=>zai S x.1 && decide (since<x.2)).map Prod.fst):=by
 refine (perm_ext_iff_of_nodup ?_ ?_).2 λx=> ?_
 ·exact List.Nodup.sublist filter_sublist (znO S.G S.L 256 om (λi=>(hW.ok.2.1 i).1))
 ·exact List.Nodup.sublist (List.Sublist.map _ filter_sublist) hI.chn
 ·unfold chK;rw[mem_filter,zcs hW,mem_map];constructor
  ·rintro⟨h1,h2⟩;refine⟨_,mem_filter.2 ⟨hI.chm x h1,?_⟩,rfl⟩;rw[h1];exact h2
  ·rintro⟨⟨y,t⟩,hy,rfl⟩;rw[mem_filter,Bool.and_eq_true]at hy;refine⟨hy.2.1,?_⟩;have hm:=hI.chm y hy.2.1;rw[zrY _ hI.chn _ _ _ hm hy.1];exact hy.2.2
theorem zxt{lt:Nat->Int}{since:Int}(h:xs[k]? =some x)(hc:since<lt (x % 256).toNat):chK lt since (xs.take (k+1))=chK lt since (xs.take k)++[x]:=by
 unfold chK;rw[take_add_one,h,filter_append];simp[hc]
theorem zy6{lt:Nat->Int}{since:Int}(h:xs[k]? =some x)(hc:¬since<lt (x % 256).toNat):chK lt since (xs.take (k+1))=chK lt since (xs.take k):=by
 unfold chK;rw[take_add_one,h,filter_append];simp[hc]
theorem zkD(h0:LSB w g F S)(hW:WS S)(since:Int):
  Calls prog 193 #[.pointer (some ⟨g,0,none⟩),.int .i64 since] w λe w'=>∃v,e= .returned v/\LRes w w' (chL S since) v/\Bw w w':=by
 have CX:=kA (zuo h0 hW);obtain⟨ls,lt,⟨p,mb,ts,Lf,gv,lab,h,hF⟩,hI⟩:=h0;have Hw:Hid ((chK lt since (alS S)).mergeSort (λx y=>decide (x<=y))=chL S since):=kA (zmW (zxs hI hW since));have dB:Hid (∀x∈alS S,zel x=true):=kA (λx hx=>zje ((zcs hW).1 hx));have HT:Hid (∀u,Bw w u->∀k,k<256->u.cell? ⟨g,3+k*2+1,none⟩=some (.int .i64 (lt k))):=kA (λu q k hk=>(h.keep q).cT hk);have hg:=h.row.lt;have ku:(alS S).length<=256:=by
  unfold alS zd3;rw[length_map];exact Nat.le_trans (length_filter_le _ _) (by rw[length_range];exact Nat.le_refl _)
 obtain⟨xs,Rn⟩:∃xs,xs=alS S:=⟨_,rfl⟩;rw[<-Rn]at CX Hw dB ku;obtain⟨i0,kB,kQ,kR,kH⟩:=info_parts zcr;have HI:=kA (And.intro kB (And.intro kQ (And.intro kR kH)));clear kB kQ kR kH h hF hI hW Rn;obtain⟨n,hn⟩:∃n,n=xs.length:=⟨_,rfl⟩;rw[<-hn]at CX ku;have HN:=kA hn;clear hn;go_enter func193,ntmps193;go_wp2_with fail;refine CX.mono ?_;rintro e w1 ⟨a,cap,rfl,Hd,kj⟩;have hJ:=kA Hd;have Hk:=kA kj;have Hy:=Hd.2.1;clear Hd kj CX;go_wp2;have Qe:w.heap.size<=w1.heap.size:=Hk.size
 go_loopw [5,11] (λv i wr=>∃k:Nat,k<=n/\i= .int .i64 k/\OwnD wr w1.heap.size v (chK lt since (xs.take k)).length (chK lt since (xs.take k))/\Bw w1 wr) (λ_ i _=>n - (ivl i).toNat)
 case atStart=>exact⟨0,om,rfl,OwnD.nil _ _,Below.refl _ _⟩
 case round=>
  obtain⟨k,hk,rfl,Hc,hb⟩:=hrel;have Hp:=kA Hc;have HB:=kA hb;have yj:g<wr.heap.size:=Nat.lt_of_lt_of_le (Nat.lt_of_lt_of_le hg Qe) hb.size;have Kr:w1.heap.size<=wr.heap.size:=hb.size;have dj:(chK lt since (xs.take k)).length<=256:=by
   unfold chK;refine Nat.le_trans (length_filter_le _ _) ?_;rw[length_take];omega
  clear Hc hb
  by_cases hlt:k<n
  ·obtain⟨b,off,x,rfl,hx,cx⟩:=zch (zar hJ HB) hlt;have Ht:=World.block_lt_of_cell? _ _ cx;obtain⟨j,hj,Qf,xJ⟩:=znI (dB x (mem_of_getElem? hx));have CU:=kA xJ;have ct:=HT.out wr (zad Hk HB) j hj;have k0:(0:Int)<=(k:Int):=om;have k1:(k:Int)<(n:Int):=om;have j0:(0:Int)<=(j:Int):=om;have j1:(j:Int)<256:=om;obtain⟨t,ht⟩:∃t,t=lt j:=⟨_,rfl⟩;rw[<-ht]at ct;have Hn:Hid (since<t->chK lt since (xs.take (k+1))=chK lt since (xs.take k)++[x]):=kA (λc=>zxt hx (by rw[Qf,<-ht];exact c));have Hm:Hid (¬since<t->chK lt since (xs.take (k+1))=chK lt since (xs.take k)):=kA (λc=>zy6 hx (by rw[Qf,<-ht];exact c));obtain⟨C,hC⟩:∃C,C=chK lt since (xs.take k):=⟨_,rfl⟩;rw[<-hC]at Hn Hm Hp dj;obtain⟨m,hm⟩:∃m,m=C.length:=⟨_,rfl⟩;rw[<-hm]at Hp dj;have HM:=kA hm;clear xJ Qf hx ht hC hm
   by_cases hc:since<t
   ·replace Hn:=kA (Hn hc);clear Hm;go_wp2;go_quiet (first | (go_at_call 108;refine Calls.quiet_of_same ((CU _).mono λ_ _ q=>⟨q.1,q.2.symm⟩)))
    refine fin (λW=>OwnD W w1.heap.size u5 m C/\Bw w1 W) ⟨zjQ Hp (Go.below_drewN (Below.refl _ _) nq),Go.below_drewN HB nq⟩ ?_;rintro W ⟨ho,hb⟩;have dy:=kA ho;have He:=kA hb;have Yl:w1.heap.size<=W.heap.size:=hb.size;clear ho hb ct cx Hp HB;go_wp2_with (at_builtin;refine wpList_append_own _ rfl (.tmp 25) (.tmp 27) 35 rfl w1.heap.size 81 i0 (.int .i64 0) 1 8 underlying35 HI.1 HI.2.1 HI.2.2.1 HI.2.2.2 rfl (by decide) _ _ _ rfl (dy.alloc _) ⟨W.heap.size,0,none⟩ 1 1 [.int .i64 x] rfl rfl (cell_one_new _ _ _) (by intro u hu;simp at hu;subst hu;rfl) (by unfold maxLen;omega) om (by simp;omega) ?_);intro v' w2 kJ kK _;have Kv:=kA kJ;have Cx:=kA kK;clear kJ kK;go_wp2;go_roundw
    case rel=>
     have el:(chK lt since (xs.take (k+1))).length=m+1:=by rw[Hn.out,length_append,<-HM.out];rfl
     refine⟨k+1,om,by go_num,?_,zbS dy (Nat.le_refl _) He Yl Cx⟩;rw[el];unfold OwnD;rw[Hn.out,map_append];exact Kv
    case measure=>simp[ivl] <;> omega
   ·have KU:decide (since<t)=false:=decide_eq_false hc;replace Hm:=kA (Hm hc);clear Hn;go_wp2;go_quiet (first | (go_at_call 108;refine Calls.quiet_of_same ((CU _).mono λ_ _ q=>⟨q.1,q.2.symm⟩)))
    go_wp2;go_roundw
    case rel=>exact⟨k+1,om,by go_num,by rw[Hm.out,<-HM.out];exact zjQ Hp (Go.below_drewN (Below.refl _ _) nq),Go.below_drewN HB nq⟩
    case measure=>simp[ivl] <;> omega
  ·obtain rfl:k=n:=om;have e0:xs.take k=xs:=take_of_length_le (by have:=HN.out;omega);rw[e0]at Hp dj;have HS:=kA (zeL Hp om);obtain⟨qa,qcap,YZ,Bj⟩:=Hp.row;clear Bj;subst YZ;clear e0;go_wp2_with fail;refine HS.mono ?_;rintro e w2 ⟨rfl,ho,Hj⟩
   have HR:Hid (LRes w w2 (chL S since) (.slice qa (chK lt since xs).length qcap)/\Bw w w2):=kA ⟨by
    rw[Hw.out]at ho
    exact LRes.of9 ho Qe,zad Hk (zbl Hp (Nat.le_refl _) HB Hj)⟩
   clear ho Hj HS;go_wp2;go_ret;exact⟨_,rfl,HR.1,HR.2⟩
section
variable {X:Sc} {E E' E2:XS} {zs:List Int} {e:Int}
theorem zkE(h:zey D=0):zah (zc4 D)=[]:=by
 have hb:(zc4 D).begun=true:=decide_eq_true h;unfold zah zbT;rw[if_pos hb];rfl
def upX(X:Sc):List Int:=zbW (alS X.S)
theorem zl8(hX:WX X){x:Int}:x∈upX X↔zai X.S x=true:=by
 unfold upX;rw[zf8];exact zcs hX.ws
theorem zrZ(h:WX X):(alS X.S).Nodup:=znO _ _ 256 (Nat.le_refl _) (λi=>(h.ws.ok.2.1 i).1)
theorem zAh(h:WX X):(upX X).Pairwise (·<·):=zrJ (zrZ h)
theorem zib(hX:SX3 X)(h:EOk X E){R':List Rc}(hw:Wk (oX X (zaI X E.D E.since).L) E.R (zaZ X E) R')(k:Int):look k R'=oX X (zaI X E.D E.since).L k:=by
 have hK:=h.know hX;have H8:∀x,zai X.S x=true->okM (zaS X x).pl=true:=λ_=>zfy hX.wx;have Ci:∀x,zai X.S x=true->Rg (zaS X x).id/\Rg (zaS X x).par:=λ_=>zi3 hX.wx;refine hw.whole (λk hk=> ?_) k;have h1:k∉zah (zaI X E.D E.since):=λm=>hk (zdm.2 (.inl m));have h2:k∉goL X.S E.since:=λm=>hk (zdm.2 (.inr m));rcases h with ⟨n,rfl⟩ | ⟨X0,a,b,c,d,r⟩
 ·by_cases l:zai X.S k=true
  ·exact absurd ((zh4 hX.wx hK H8 Ci rfl k).2 l) h1
  ·exact (ze2 hX.wx hK H8 (by simpa using l)).1.symm
 ·cases l:zai X.S k with
  | true=>rw[c.recs k];exact (znx hX.wx hK H8 Ci c (λx hl hc=>zh6 a d hl hc) l h1).1.symm
  | false=>
   rw[(ze2 hX.wx hK H8 l).1,c.recs k];refine (zdj ?_).1
   cases q:elF Nd.id E.D.L k with
   | none=>rfl
   | some n=>exact absurd (hK.gone k l (by rw[q];rfl)) h2
theorem zoO(hX:SX3 X)(h:EOk X E):zbp (eX X (zaI X E.D E.since).L) (zaZ X E)=zbp (eX X (zaI X E.D E.since).L) (upX X):=by
 have hK:=h.know hX;have H8:∀x,zai X.S x=true->okM (zaS X x).pl=true:=λ_=>zfy hX.wx;have Ci:∀x,zai X.S x=true->Rg (zaS X x).id/\Rg (zaS X x).par:=λ_=>zi3 hX.wx;have e1:zbp (eX X (zaI X E.D E.since).L) ((zaZ X E).filter (λx=>decide (x∈zah (zaI X E.D E.since))))=zbp (eX X (zaI X E.D E.since).L) (zaZ X E):=
  zdY _ _ (λx hx hf=>by
   have E3:x∉zah (zaI X E.D E.since):=of_decide_eq_false hf;have hg:=(zdm.1 hx).resolve_left E3
   exact (ze2 hX.wx hK H8 (hK.went x hg)).2)
 rw[<-e1];have Di:((zaZ X E).filter (λx=>decide (x∈zah (zaI X E.D E.since)))).Pairwise (·<·):=(zkw hX h).sublist filter_sublist;have hz:∀x,x∈(zaZ X E).filter (λx=>decide (x∈zah (zaI X E.D E.since)))↔x∈zah (zaI X E.D E.since):=λx=>by
  rw[mem_filter,decide_eq_true_eq];exact⟨λq=>q.2,λq=>⟨zdm.2 (.inl q),q⟩⟩
 refine zrA (zAh hX.wx) Di (λx hx=>(zl8 hX.wx).2 (zfA hX h ((hz x).1 hx))) (λx hx hn=> ?_);have hl:=(zl8 hX.wx).1 hx;have h1:x∉zah (zaI X E.D E.since):=λm=>hn ((hz x).2 m);rcases h with ⟨n,rfl⟩ | ⟨X0,a,b,c,d,r⟩
 ·exact absurd ((zh4 hX.wx hK H8 Ci rfl x).2 hl) h1
 ·rw[(znx hX.wx hK H8 Ci c (λx hl hc=>zh6 a d hl hc) hl h1).2];exact c.errs x
theorem Synced.good(hX:SX3 X)(h:EOk X E)(h0:zey (zaI X E.D E.since)=0)(h1:zbp (eX X (zaI X E.D E.since).L) (zaZ X E)=0){R':List Rc}(hw:Wk (oX X (zaI X E.D E.since).L) E.R (zaZ X E) R'):zxe X (zc4 (zaI X E.D E.since)) R':=by
 refine⟨(h.take hX).run,decide_eq_true h0,zkE h0,hw.1,zib hX h hw,λk=> ?_⟩;have hK:=h.know hX;show eX X (zaI X E.D E.since).L k=0
 cases l:zai X.S k with
 | true=>
  rw[zoO hX h]at h1;exact zh3.1 h1 k ((zl8 hX.wx).2 l)
 | false=>exact (ze2 hX.wx hK (λ_=>zfy hX.wx) l).2
theorem zoP{o:Int->Option Rc}{zs:List Int}(hw:Wk o R zs R')(k:Int):k∈R'.map Rc.id↔if k∈zs then (o k).isSome=true else k∈R.map Rc.id:=by
 rw[<-zd7,hw.2 k]
 by_cases c:k∈zs
 ·rw[if_pos c,if_pos c]
 ·rw[if_neg c,if_neg c];exact zd7
theorem Synced.next(hX:SX3 X)(h:EOk X E)(hs:Synced X E zs e E'):EOk (zfY X) E':=by
 rcases hs with ⟨_,_,_,d⟩ | ⟨_,_,_,_,d⟩ | ⟨a,b,_,_,R',d,d2⟩
 ·exact .inl ⟨_,d⟩
 ·exact .inl ⟨_,d⟩
 ·subst d2;obtain⟨s1,s2,s3⟩:=znC (zs:=R'.map Rc.id) h.si;exact .inr ⟨X,hX.wx,h.nodes hX,Synced.good hX h a b d,ToldX.start hX.wx,s1,s2⟩
theorem ze9(hX:WX X){L:List Nd}(hn:(L.map Nd.id).Nodup)(hN:zed X L):L.length<=256:=by
 have h1:=zeb (m:=alS X.S) hn (λx hx=>by
  obtain⟨n,hm,rfl⟩:=mem_map.1 hx;have h2:=hN n.id;rw[zdT hn hm]at h2
  by_cases c:zai X.S n.id=true
  ·exact (zcs hX.ws).2 c
  ·rw[if_neg c]at h2;cases h2)
 rw[length_map]at h1;exact Nat.le_trans h1 (zvh X.S)
theorem EOk.len(h:EOk X E):E.D.L.length<=256:=by
 rcases h with ⟨n,rfl⟩ | ⟨X0,a,b,c,d,r⟩
 ·exact zero_le _
 ·exact ze9 a c.dok.nod b
theorem zup(h:zdp R)(hl:∀k∈R.map Rc.id,k∈alS X.S):R.length<=256:=by
 have h1:=zeb (zi1 h) hl;rw[length_map]at h1;exact Nat.le_trans h1 (zvh X.S)
theorem zr0(hX:SX3 X)(h:EOk X E){k:Int}(hk:(oX X (zaI X E.D E.since).L k).isSome=true):zai X.S k=true:=by
 cases l:zai X.S k with
 | true=>rfl
 | false=>
  rw[(ze2 hX.wx (h.know hX) (λ_=>zfy hX.wx) l).1]at hk
  cases hk
theorem zr1(hX:SX3 X)(h:EOk X E){R':List Rc}(hw:Wk (oX X (zaI X E.D E.since).L) E.R (zaZ X E) R'){k:Int}(hk:k∈R'.map Rc.id):zai X.S k=true:=by
 rw[<-zd7,zib hX h hw k]at hk;exact zr0 hX h hk
theorem EOk.rlen(h:EOk X E):E.R.length<=256:=by
 rcases h with ⟨n,rfl⟩ | ⟨X0,a,b,c,d,r⟩
 ·exact zero_le _
 ·refine zup (X:=X0) c.rise (λk hk=>(zcs a.ws).2 ?_);rw[<-zd7,c.recs k]at hk
  cases l:zai X0.S k with
  | true=>rfl
  | false=>
   have:=b k;rw[l]at this;rw[(zdj this).1]at hk
   cases hk
def EBd(E:XS)(k:Nat):Prop:=E.D.steps<=300*k/\E.n<=2000*k
theorem EBd.mono{k':Nat}(h:EBd E k)(hk:k<=k'):EBd E k':=⟨Nat.le_trans h.1 (mul_le_mul_left _ hk),Nat.le_trans h.2 (mul_le_mul_left _ hk)⟩
theorem zvz(S:St)(since:Int):(goL S since).length<=S.go.length:=by
 unfold goL;rw[zf9,length_map];exact length_filter_le _ _
theorem zic(X:Sc)(D:FD)(since:Int):(zaI X D since).steps=D.steps:=by
 have h1:∀ (xs:List Int) (D:FD),(zbr D xs).steps=D.steps:=by
  intro xs
  induction xs with
  | nil=>exact λ_=>rfl
  | cons x xs ih=>exact λD=>(ih (za2 D x)).trans (by unfold za2;split <;> rfl)
 unfold zaI zcz
 split
 ·exact h1 _ _
 ·exact h1 _ _
theorem zid(hX:SX3 X)(h:EOk X E):(zaZ X E).length<=256+X.S.go.length:=by
 unfold zaZ;rw[zf9,length_append];have h1:=zdU (h.take hX).wf;have h2:=ze9 hX.wx (h.take hX).nod (h.nodes hX);have h3:=zvz X.S E.since;omega
theorem Synced.bd(hX:SX3 X)(h:EOk X E){k:Nat}(hB:BSc X 900)(hb:EBd E k)(hs:Synced X E zs e E'):EBd E' (k+1):=by
 have h1:=zid hX h;have h2:=hB.2.1;have h3:=zdU (h.take hX).wf;have h4:=ze9 hX.wx (h.take hX).nod (h.nodes hX);have h5:=zic X E.D E.since;obtain⟨b1,b2⟩:=hb;rcases hs with ⟨_,_,_,d⟩ | ⟨_,_,_,_,d⟩ | ⟨_,_,_,_,R',_,d⟩
 ·rw[d];exact⟨zero_le _,by show E.n+_<=_;omega⟩
 ·rw[d];exact⟨zero_le _,by show E.n+_<=_;omega⟩
 ·rw[d];exact⟨by show (zaI X E.D E.since).steps+_<=_;omega,by show E.n+_<=_;omega⟩
theorem zkF(hX:WX X){us:List Int}(hn:us.Nodup)(hu:∀u∈us,zai X.S u=true):us.length<=X.S.room:=by
 have Vg:(us.map (λu=>((u % 256).toNat:Int))).Nodup:=by
  refine List.pairwise_map.2 (hn.imp_of_mem (fun {a b} ha hb hab e=>hab (zjd (hu a ha) (hu b hb) om)))
 have h1:=zeb (m:=(range X.S.room).map (λ(i:Nat)=>(i:Int))) Vg (λx hx=>by
  obtain⟨u,hm,rfl⟩:=mem_map.1 hx
  exact mem_map.2 ⟨_,mem_range.2 (zub hX.ws (hu u hm)),rfl⟩)
 rw[length_map,length_map,length_range]at h1;exact h1
theorem Synced.below(hX:SX3 X)(h:EOk X E){m:Nat}(hr:X.S.room=m)(hb:∀p∈E.S,p.2<m)(hs:Synced X E zs e E'):∀p∈E'.S,p.2<m:=by
 rcases hs with ⟨_,_,_,d⟩ | ⟨_,_,_,_,d⟩ | ⟨_,_,_,_,R',d,d2⟩
 ·rw[d];exact λp hp=>(by cases hp)
 ·rw[d];exact λp hp=>(by cases hp)
 ·rw[d2]
  exact zl1 h.si hb (λus hn hu=>by
   rw[<-hr]
   exact zkF hX.wx hn (λu m=>zr1 hX h d (hu u m)))
theorem Synced.stay(h:EOk X E)(hs:Synced X E zs e E')(he:e=0){y:Int}(h1:y∈E.R.map Rc.id)(h2:y∈E'.R.map Rc.id):zau E'.S y=zau E.S y:=by
 rcases hs with ⟨a,_,b,d⟩ | ⟨_,a,_,b,d⟩ | ⟨_,_,_,_,R',d,d2⟩
 ·exact absurd (b.symm.trans he) a
 ·exact absurd (b.symm.trans he) a
 ·subst d2;exact (znC (zs:=R'.map Rc.id) h.si).2.2 y h2 ((h.has y).2 h1)
end
theorem zjg(hn:(L.map Rc.id).Nodup){k:Int}{r:Rc}:look k L=some r↔r∈L/\r.id=k:=by
 refine⟨zeZ,λ⟨h1,h2⟩=> ?_⟩;obtain⟨y,hy⟩:=zhd h1 h2;obtain⟨y1,y2⟩:=zeZ hy;rw[hy];congr 1;have key:∀ {L:List Rc},(L.map Rc.id).Nodup->y∈L->r∈L->y=r:=by
  intro L
  induction L with
  | nil=>intro _ h;cases h
  | cons a L ih=>
   intro hn hy hr;rw[map_cons,nodup_cons]at hn;rcases mem_cons.1 hy with rfl | hy
   ·rcases mem_cons.1 hr with rfl | hr
    ·rfl
    ·exact absurd (mem_map.2 ⟨r,hr,om⟩) hn.1
   ·rcases mem_cons.1 hr with e | hr
    ·exact absurd (mem_map.2 ⟨y,hy,by rw[<-e];omega⟩) hn.1
    ·exact ih hn.2 hy hr
 exact key hn y1 h1
theorem zuq(hn:(L.map Rc.id).Nodup)(k:Int):look k L.reverse=look k L:=by
 have qe:(L.reverse.map Rc.id).Nodup:=by rw[map_reverse];exact (reverse_perm _).nodup_iff.2 hn
 refine Option.ext λr=> ?_;rw[zjg qe,zjg hn,mem_reverse]
section
variable {o:Int->Option Rc} {zs:List Int}
theorem zhm(ho:∀x r,o x=some r->r.id=x):∀zs:List Int,(zs.filterMap o).map Rc.id=zs.filter (λx=>(o x).isSome)
 | []=>rfl
 | x::zs=>by
  have ih:=zhm ho zs
  cases c:o x with
  | none=>rw[filterMap_cons_none c,filter_cons_of_neg (by rw[c];exact Bool.false_ne_true),ih]
  | some r=>rw[filterMap_cons_some c,map_cons,filter_cons_of_pos (by rw[c];rfl),ih,ho x r c]
theorem zdn(ho:∀x r,o x=some r->r.id=x)(hz:zs.Pairwise (·<·)):zdp (zs.filterMap o):=by
 have h1:((zs.filterMap o).map Rc.id).Pairwise (·<·):=by rw[zhm ho];exact hz.sublist filter_sublist
 exact List.pairwise_map.1 h1
theorem zfa(ho:∀x r,o x=some r->r.id=x){k:Int}:k∈(zs.filterMap o).map Rc.id↔k∈zs/\(o k).isSome=true:=by rw[zhm ho,mem_filter]
theorem zie(ho:∀x r,o x=some r->r.id=x)(hz:zs.Pairwise (·<·))(k:Int):look k (zs.filterMap o)=if k∈zs then o k else none:=by
 refine Option.ext λr=> ?_;rw[zjg (zi1 (zdn ho hz)),mem_filterMap];constructor
 ·rintro⟨⟨x,hx,hr⟩,rfl⟩;rw[<-ho x r hr]at hx hr;rw[if_pos hx];exact hr
 ·intro h
  by_cases c:k∈zs
  ·rw[if_pos c]at h;exact⟨⟨k,c,h⟩,ho k r h⟩
  ·rw[if_neg c]at h;cases h
theorem zur(ho:∀x r,o x=some r->r.id=x)(hz:zs.Pairwise (·<·)){R R':List Rc}(hR:zdp R')(hk:∀k,look k R'=(look k (zs.filterMap o).reverse).or (look k (zht R zs))):Wk o R zs R':=
 ⟨hR,λk=>by
  rw[hk k,zuq (zi1 (zdn ho hz)),zie ho hz,zt3]
  by_cases c:k∈zs
  ·rw[if_pos c,if_pos c,if_pos c,Option.or_none]
  ·rw[if_neg c,if_neg c,if_neg c,Option.none_or]⟩
theorem zxu{α β:Type}(f:α->Option β){l:List α}{j:Nat}{x:α}(h:l[j]? =some x):(l.take (j+1)).filterMap f=(l.take j).filterMap f++(f x).toList:=by
 rw[take_add_one,h,filterMap_append]
 cases c:f x <;> simp[c]
end
def slM(S:SlR)(x:Int):Option Int:=if 0<=zau S x then some (zau S x) else none
theorem zr2:slM []=λ_=>none:=rfl
theorem zhn(p:Int->Bool):∀ (zs:List Int) {S:SlR},SI S->(∀x∈zs,p x=false->0<=zau S x)->zs.foldl za1 S=(zs.filter p).foldl za1 S
 | [],_,_,_=>rfl
 | x::zs,S,hS,h=>by
  obtain⟨s1,s2,_,_⟩:=ze5 hS x
  by_cases c:p x=true
  ·rw[filter_cons_of_pos c];exact zhn p zs s1 (λy hy hp=>by rw[s2 y (h y (mem_cons_of_mem _ hy) hp)];exact h y (mem_cons_of_mem _ hy) hp)
  ·rw[filter_cons_of_neg c];have e:za1 S x=S:=by unfold za1;rw[if_pos (h x mem_cons_self (by simpa using c))]
   show zs.foldl za1 (za1 S x)=_;rw[e];exact zhn p zs hS (λy hy hp=>h y (mem_cons_of_mem _ hy) hp)
section
variable {R R' fr:List Rc} {zs:List Int} {S:SlR}
theorem zr3(hS:SI S)(has:∀y,0<=zau S y↔y∈R.map Rc.id)(Bl:zdp R')(kE:zdp fr)(hk:∀k,k∈R'.map Rc.id↔if k∈zs then k∈fr.map Rc.id else k∈R.map Rc.id)(Vh:∀k∈fr.map Rc.id,k∈zs):
  zcN (R'.map Rc.id) S=(fr.map Rc.id).foldl za1 (zf0 (R'.map Rc.id) S):=by
 unfold zcN;have hin:∀x∈fr.map Rc.id,x∈R'.map Rc.id:=λx hx=>(hk x).2 (by rw[if_pos (Vh x hx)];exact hx);rw[zhn (λx=>decide (x∈fr.map Rc.id)) (R'.map Rc.id) (S:=zf0 (R'.map Rc.id) S) (hS.filter _) (λx hx hp=> ?_),<-zvv (zfx Bl) (zfx kE) hin];have hp':x∉fr.map Rc.id:=of_decide_eq_false hp;have h1:=(hk x).1 hx
 by_cases c:x∈zs
 ·rw[if_pos c]at h1;exact absurd h1 hp'
 ·rw[if_neg c]at h1;show 0<=zau (zf0 (R'.map Rc.id) S) x;rw[ze4 hS,if_pos hx];exact (has x).2 h1
def zjt(S:SlR)(zs:List Int)(fi:List Int)(x:Int):Option Int:=if x∈zs/\x∉fi then none else slM S x
theorem zxv(hS:SI S)(has:∀y,0<=zau S y↔y∈R.map Rc.id)(hk:∀k,k∈R'.map Rc.id↔if k∈zs then k∈fr.map Rc.id else k∈R.map Rc.id):zjt S zs (fr.map Rc.id)=slM (zf0 (R'.map Rc.id) S):=funext λx=>by
 unfold zjt slM;rw[ze4 hS];have h1:=hk x
 by_cases c:x∈zs
 ·rw[if_pos c]at h1
  by_cases d:x∈fr.map Rc.id
  ·rw[if_neg (λq=>q.2 d),if_pos (h1.2 d)]
  ·rw[if_pos ⟨c,d⟩,if_neg (λq=>d (h1.1 q)),if_neg om]
 ·rw[if_neg c]at h1;rw[if_neg (λq=>c q.1)]
  by_cases d:x∈R.map Rc.id
  ·rw[if_pos (h1.2 d)]
  ·rw[if_neg (λq=>d (h1.1 q)),if_neg (λq=>d ((has x).1 q)),if_neg om]
theorem znP{fi:List Int}(h:zs[j]? =some x):zjt S (zs.take (j+1)) fi=if x∈fi then zjt S (zs.take j) fi else λy=>if y=x then none else zjt S (zs.take j) fi y:=by
 have hm:∀y,y∈zs.take (j+1)↔y∈zs.take j∨y=x:=λy=>by
  rw[take_add_one,h,mem_append];simp
 by_cases c:x∈fi
 ·rw[if_pos c];funext y;unfold zjt
  by_cases e:y∈zs.take j/\y∉fi
  ·rw[if_pos e,if_pos ⟨(hm y).2 (.inl e.1),e.2⟩]
  ·rw[if_neg e,if_neg (λq=>e ⟨((hm y).1 q.1).resolve_right (λz=>q.2 (z ▸ c)),q.2⟩)]
 ·rw[if_neg c];funext y;unfold zjt
  by_cases d:y=x
  ·subst d;rw[if_pos rfl,if_pos ⟨(hm y).2 (.inr rfl),c⟩]
  ·rw[if_neg d]
   by_cases e:y∈zs.take j/\y∉fi
   ·rw[if_pos e,if_pos ⟨(hm y).2 (.inl e.1),e.2⟩]
   ·rw[if_neg e,if_neg (λq=>e ⟨((hm y).1 q.1).resolve_right d,q.2⟩)]
end
theorem znQ{S:SlR}(hS:SI S){x n:Int}:slM S x=some n↔(x,n)∈S:=by
 unfold slM;constructor
 ·intro h
  by_cases c:0<=zau S x
  ·rw[if_pos c]at h;injection h with h;rw[<-h];exact ze3 hS c
  ·rw[if_neg c]at h;cases h
 ·intro h;have e:=zi5 hS h;have h0:0<=zau S x:=(zbd hS).2 (mem_map.2 ⟨_,h,rfl⟩);rw[if_pos h0,e]
structure LInv (K S:SlR) (l:Nat):Prop where
 si:SI S
 low:∀m,m<l->zc0 S (m:Nat)=true
 high:∀n:Nat,l<=n->zc0 S (n:Nat)=zc0 K (n:Nat)
theorem LInv.start{K:SlR}(h:SI K):LInv K K 0:=⟨h,λm hm=>absurd hm (not_lt_zero m),λ_ _=>rfl⟩
theorem zr4{S:SlR}(hx:0<=zau S x):za1 S x=S:=by unfold za1;rw[if_pos hx]
theorem LInv.bound{K S:SlR}(h:LInv K S l):l<=zbw S/\zc0 K (zbw S:Nat)=false/\zbw S<=S.length:=by
 have h1:=(zh7 S h.low).2;exact⟨h1,by rw[<-h.high _ h1];exact (zdl S).1,(zdl S).2⟩
theorem LInv.give{K S:SlR}(h:LInv K S l){x:Int}(hx:¬0<=zau S x)(h1:l<=n)(h2:∀m,l<=m->m<n->zc0 K (m:Nat)=true)(h3:zc0 K (n:Nat)=false):za1 S x=S++[(x,(n:Int))]/\LInv K (za1 S x) (n+1):=by
 have hu:∀m,m<n->zc0 S (m:Nat)=true:=λm hm=>by
  by_cases c:m<l
  ·exact h.low m c
  ·rw[h.high m om];exact h2 m om hm
 have e:zbw S=n:=(zh7 S hu).1 (by rw[h.high n h1];exact h3);have eg:za1 S x=S++[(x,(n:Int))]:=by unfold za1;rw[if_neg hx,e]
 have EE:∀m:Nat,zc0 (S++[(x,(n:Int))]) (m:Nat)=(zc0 S (m:Nat) || decide (n=m)):=λm=>by
  unfold zc0;rw[any_append];have:([(x,(n:Int))].any λp=>p.2==(m:Int))=decide (n=m):=by
   by_cases c:n=m
   ·subst c;simp
   ·rw[decide_eq_false c];simp;omega
  rw[this]
 refine⟨eg,(ze5 h.si x).1,λm hm=> ?_,λk hk=> ?_⟩
 ·rw[eg,EE]
  by_cases c:m<n
  ·rw[hu m c];rfl
  ·rw[decide_eq_true om,Bool.or_true]
 ·rw[eg,EE,h.high k om,decide_eq_false om,Bool.or_false]
theorem zus{S:SlR}(hS:SI S){x:Int}{n:Nat}(hx:¬0<=zau S x):slM (S++[(x,(n:Int))])=λy=>if y=x then some (n:Int) else slM S y:=funext λy=>by
 unfold slM;rw[znA]
 by_cases e:y=x
 ·subst e;have hn:¬y∈S.map Prod.fst:=λq=>hx ((zbd hS).2 q);have h1:zau [(y,(n:Int))] y=n:=by unfold zau;simp
  rw[if_neg hn,h1,if_pos om,if_pos rfl]
 ·rw[if_neg e]
  by_cases c:y∈S.map Prod.fst
  ·rw[if_pos c]
  ·have h1:zau [(x,(n:Int))] y= -1:=by
    refine zcO ?_;simpa using e
   rw[if_neg c,h1,zcO c]
theorem zy7(hW:WS S){x:Int}(h:zai S x=false):zby S x=zT:=by
 unfold zby;rw[zdV hW]at h;unfold zcF at h
 cases c:atS S x with
 | none=>rfl
 | some i=>rw[c]at h;cases h
theorem zAi(M:Nat->Int)(s:Bool):oeR M zT s=0/\obR M zT s=false:=by
 have h:zdJ zT=false:=by decide
 unfold oeR obR;rw[h,Bool.and_false];exact⟨rfl,rfl⟩
def stO(D:FD)(x:Int):Stt:=(zfM D x).getD zSt
theorem zut{X:Sc}(hX:WX X)(hD:DOk D)(hN:zed X D.L)(h0:zey D=0)(x:Int):
  oeR (stO (zc4 D) x).wo (zby X.S x) (stO (zc4 D) x).sh=eX X D.L x/\(if obR (stO (zc4 D) x).wo (zby X.S x) (stO (zc4 D) x).sh=true then some (zrx x (zby X.S x) (stO (zc4 D) x).wo) else none)=oX X D.L x:=by
 cases l:zai X.S x with
 | true=>
  have hx:(elF Nd.id (zc4 D).L x).isSome=true:=by
   show (elF Nd.id D.L x).isSome=true;rw[hN x,if_pos l];rfl
  have hb:(zc4 D).begun=true:=decide_eq_true h0;have ht:x∉zah (zc4 D):=by rw[zkE h0];exact not_mem_nil
  obtain⟨s,f1,f2⟩:=hD.run.st hb x hx ht;have hs:zfM (zc4 D) x=some s:=by
   unfold zfM;rw[if_pos ⟨hb,ht,hx⟩];exact f2
  have f1':zcd D.L x=(some s,0):=f1;unfold stO oX eX;rw[hs,f1'];exact⟨rfl,rfl⟩
 | false=>
  have h1:elF Nd.id D.L x=none:=by rw[hN x,if_neg (by rw[l];exact Bool.false_ne_true)]
  obtain⟨d1,d2⟩:=zdj (X:=X) h1;obtain⟨z1,z2⟩:=zAi (stO (zc4 D) x).wo (stO (zc4 D) x).sh;rw[zy7 hX.ws l,z1,z2,d1,d2];exact⟨rfl,rfl⟩
theorem znR:Go.Maps.Keyed prog 3:=Go.Maps.int_keyed underlying3
theorem zvA(h:Rg x):keyOf prog 3 (.int .i64 x)=some (.int .i64 x):=by
 refine Go.Maps.keyOf_int_mk underlying3 ?_;show (decide (IntKind.i64.min<=x) && decide (x<=IntKind.i64.max))=true;rw[decide_eq_true (show IntKind.i64.min<=x from h.1),decide_eq_true (show x<=IntKind.i64.max from h.2)];rfl
structure MKi (α:Type) where
 t:TypeId
 e:TypeId
 V:Option α->Value
 E:Option α->DataW Unit
 R:Value->Option (DataW Unit × List MemPlace)
 ht:prog.underlying t=some (.map 3 e)
 hz:∀w,(zeroValue e).run prog w= .ok (V none) w
 rv:∀o,R (V o)=some (E o,[])
 inv:∀v o ps,R v=some (E o,ps)->v=V o
def MFi{α:Type}(k:MKi α)(w:World)(mb:Nat)(m:Int->Option α):Prop:=∃D:DataW Unit,w.ownsMap prog 3 k.R mb 100000 D/\(∀x,Rg x->D.atKey (.int .i64 x) (k.E none)=k.E (m x)/\Maps.has D (.int .i64 x)=(m x).isSome)/\∀x:Int,Maps.has D (.int .i64 x)=true->Rg x
theorem zl9{R:Value->Option (DataW Unit × List MemPlace)}{D:DataW Unit}(hw:w.ownsMap prog 3 R mb n D)(K:List Int)(hK:∀x:Int,Maps.has D (.int .i64 x)=true->x∈K):Maps.size D<=K.length:=by
 have hp:(ddI (K.filter λx=>Maps.has D (.int .i64 x))).Perm (intKeys D):=CollectedI.perm (left:=λ_=>false) ⟨ziK _,λx=>by
  rw[zgY,mem_filter]
  exact⟨λh=>⟨h.2,rfl⟩,λh=>⟨hK x h.1,h.1⟩⟩⟩ hw znR underlying3 (λ_=>rfl)
 have h1:=hp.length_eq;have h2:=zlH (K.filter λx=>Maps.has D (.int .i64 x));have h3:=length_filter_le (λx=>Maps.has D (.int .i64 x)) K;obtain⟨es,rfl,_⟩:=hw.entries znR;unfold intKeys at h1;rw[length_map]at h1;rw[Maps.size_eq];omega
theorem zoQ{R:Value->Option (DataW Unit × List MemPlace)}{D:DataW Unit}(hw:w.ownsMap prog 3 R mb n D)(h:Maps.size D<=m):w.ownsMap prog 3 R mb m D:=by
 obtain⟨es,clock,hb,F,hs,hD⟩:=hw;refine⟨es,clock,hb,F,?_,hD⟩;have e1:Maps.size D=es.size:=by rw[hD];simp[Maps.size,length_sorted]
 omega
section
variable {α:Type} {k:MKi α} {w w':World} {mb:Nat} {m:Int->Option α} {x:Int}
theorem MFi.lt(h:MFi k w mb m):mb<w.heap.size:=by
 obtain⟨D,hD,_⟩:=h;exact hD.lt
theorem MFi.same(h:MFi k w mb m)(he:w'.heap[mb]? =w.heap[mb]?):MFi k w' mb m:=by
 obtain⟨D,⟨es,clock,hb,F,hs,hD⟩,hk⟩:=h;exact⟨D,⟨es,clock,he.trans hb,F,hs,hD⟩,hk⟩
theorem MFi.keep(h:MFi k w mb m)(hb:Bw w w'):MFi k w' mb m:=h.same (hb.block mb h.lt)
theorem MFi.new(k:MKi α)(w:World):MFi k (w.alloc (.map #[] 0)) w.heap.size (λ_=>none):=
 ⟨.map [],(World.ownsMap_made w _ _ _).mono om,λ_ _=>⟨rfl,rfl⟩,λx h=>by cases h⟩
theorem MFi.look(h:MFi k w mb m)(hx:Rg x):(Instr.lookup k.t (.map (some mb)) (.int .i64 x) true).run prog w= .ok (.tuple #[k.V (m x),.bool (m x).isSome]) w:=by
 obtain⟨D,hD,hk,_⟩:=h;obtain⟨v,ps,Hi,hv⟩:=hD.look_ok znR k.ht (k.hz w) (k.rv none) (zvA hx);rw[(hk x hx).1]at hv;rw[Hi,k.inv v _ _ hv,(hk x hx).2]
theorem MFi.put(h:MFi k w mb m)(hx:Rg x)(a:α)(K:List Int)(hK:∀y,(upm m x (some a) y).isSome=true->y∈K)(XH:K.length<=100000):
  ∃w',(Instr.mapUpdate k.t (.map (some mb)) (.int .i64 x) (k.V (some a))).run prog w= .ok () w'/\MFi k w' mb (upm m x (some a))/\w.grownBy w' (some mb):=by
 obtain⟨D,hD,hk,hr⟩:=h;obtain⟨w',Hi,h1,h2⟩:=hD.update znR k.ht (by unfold maxLen;omega) (zvA hx) (k.rv (some a));have hm:Maps.IsMap D:=hD.isMap;have hL:WideAt.IsKeyLit (.int .i64 x):=trivial;have Ho:∀ {y:Int},y≠x->(Lit.int .i64 y)≠.int .i64 x:=λhy e=>by injection e with _ e;exact hy e
 have JM:∀y:Int,Maps.has (D.put (.int .i64 x) (k.E (some a))) (.int .i64 y)=true->Rg y:=λy hy=>by
  by_cases c:y=x
  ·rw[c];exact hx
  ·rw[Maps.has_put_other (Ho c)]at hy;exact hr y hy
 have Cs:∀y,Rg y->(D.put (.int .i64 x) (k.E (some a))).atKey (.int .i64 y) (k.E none)=k.E (upm m x (some a) y)/\Maps.has (D.put (.int .i64 x) (k.E (some a))) (.int .i64 y)=(upm m x (some a) y).isSome:=λy hy=>by
  unfold upm
  by_cases c:y=x
  ·subst c;rw[if_pos rfl,Maps.atKey_put_same hm hL,Maps.has_put_same hm hL];exact⟨rfl,rfl⟩
  ·rw[if_neg c,Maps.atKey_put_other (Ho c),Maps.has_put_other (Ho c)];exact hk y hy
 have hs:=zl9 h1 K (λy hy=>hK y (by rw[<-(Cs y (JM y hy)).2];exact hy));exact⟨w',Hi,⟨_,zoQ h1 (Nat.le_trans hs XH),Cs,JM⟩,h2⟩
end
def mkAi{α:Type}(t e:TypeId)(V:Option α->Value)(ht:prog.underlying t=some (.map 3 e))(hz:∀w,(zeroValue e).run prog w= .ok (V none) w)(hV:∀o,∃l:List Value,V o= .agg l.toArray/\∀u∈l,zoz u):MKi α where
 t:=t
 e:=e
 V:=V
 E o:=zvi (V o)
 R v:=some (zvi v,[])
 ht:=ht
 hz:=hz
 rv o:=rfl
 inv v o ps h:=by
  simp at h;obtain⟨l,hl,hs⟩:=hV o;rw[hl]at h ⊢;exact zm7 hs h.1
def kI:MKi Unit:=mkAi 237 220 (λ_=> .agg #[]) underlying237 zrw (λ_=>⟨[],rfl,λu h=>by cases h⟩)
theorem zuu(w:World):(zeroValue 3).run prog w= .ok (.int .i64 0) w:=oM
def sR13:Value->Option (DataW Unit × List MemPlace)
 | .int .i64 y=>some (.lit (.int .i64 y),[])
 | _=>none
def sK13:MK Int where
 t:=106
 e:=3
 V o:= .int .i64 (o.getD 0)
 E o:= .lit (.int .i64 (o.getD 0))
 R:=sR13
 ht:=underlying106
 hz:=zuu
 rv o:=rfl
 inv v o ps h:=by
  unfold sR13 at h
  split at h
  ·simp at h;rw[h.1]
  ·cases h
def MRg{α:Type}(k:MK α)(w:World)(mb r:Nat)(m:Int->Option α)(left:Lit->Bool)(cnt:Nat):Prop:=∃D:DataW Unit,w.ranges prog 81 k.R mb r 100000 D left cnt/\(∀x,Rg x->D.atKey (.int .i64 x) (k.E none)=k.E (m x)/\Maps.has D (.int .i64 x)=(m x).isSome)/\∀x:Int,Maps.has D (.int .i64 x)=true->Rg x
section
variable {w w':World} {mb r:Nat} {m:Int->Option Int} {left:Lit->Bool} {cnt:Nat}
theorem MF.range13(h:MF sK13 w mb m):∃w' left cnt,(Instr.range 106 (.map (some mb))).run prog w= .ok (.pointer (some ⟨w.heap.size,0,none⟩)) w'/\MRg sK13 w' mb w.heap.size m left cnt/\(∀x,left (.int .i64 x)=true->(m x).isSome=true/\Rg x)/\(∀x,Rg x->left (.int .i64 x)=(m x).isSome)/\w.grownBy w' none/\w'.heap.size=w.heap.size+1:=by
 obtain⟨D,hD,hk,hr⟩:=h;obtain⟨w',h1,h2,h3,h4⟩:=hD.range zdR (t:=106) sK13.ht;exact⟨w',_,_,h1,⟨D,h2,hk,hr⟩,λx hx=>⟨by rw[<-(hk x (hr x hx)).2];exact hx,hr x hx⟩,λx hx=>(hk x hx).2,h3,h4⟩
theorem MRg.owns(h:MRg sK13 w mb r m left cnt):MF sK13 w mb m:=by
 obtain⟨D,hD,hk,hr⟩:=h;exact⟨D,hD.owns,hk,hr⟩
theorem MRg.left_eq(h:MRg sK13 w mb r m left cnt):w.rangeLeft mb r=cnt:=by
 obtain⟨D,hD,hk,hr⟩:=h;exact hD.left_eq
theorem MRg.ne(h:MRg sK13 w mb r m left cnt):r≠mb:=by
 obtain⟨D,hD,hk,hr⟩:=h;exact hD.ne
theorem MRg.lt(h:MRg sK13 w mb r m left cnt):r<w.heap.size:=by
 obtain⟨D,hD,hk,hr⟩:=h;exact hD.lt
theorem MRg.kept{row:Option Nat}(h:MRg sK13 w mb r m left cnt)(hg:w.grownBy w' row)(qu:some mb≠row)(JM:some r≠row):MRg sK13 w' mb r m left cnt:=by
 obtain⟨D,hD,hk,hr⟩:=h;exact⟨D,hD.kept hg qu JM,hk,hr⟩
theorem MRg.next(h:MRg sK13 w mb r m left cnt)(hl:∀x,left (.int .i64 x)=true->(m x).isSome=true/\Rg x):
  ((∀x,left (.int .i64 x)=false)/\∀ty,(Instr.next (.pointer (some ⟨r,0,none⟩)) false ty).run prog w= .ok (.tuple #[.bool false]) w)∨
  ∃x s w' cnt',m x=some s/\left (.int .i64 x)=true/\(∀ty,(Instr.next (.pointer (some ⟨r,0,none⟩)) false ty).run prog w= .ok (.tuple #[.bool true,.int .i64 x,.int .i64 s]) w')/\
   MRg sK13 w' mb r m (λz=>left z && !z.sameKey (.int .i64 x)) cnt'/\cnt'<cnt/\w.grownBy w' (some r)/\w'.heap.size=w.heap.size/\(Instr.entry (.pointer (some ⟨r,0,none⟩))).run prog w'= .ok (.tuple #[.int .i64 x,.int .i64 s]) w':=by
 obtain⟨D,hD,hk,hr⟩:=h;rcases hD.next zdR 3 with ⟨h0,h1,h2⟩ | ⟨key,v,kl,y,w',cnt',h1,h2,h3,h4,h5,h6,h7,h8,h9,ZN⟩
 ·exact .inl ⟨λx=>h1 _,λty=>h2⟩
 ·obtain⟨x,rfl,rfl,_⟩:=Maps.keyOf_int_inv underlying81 h1;obtain⟨hs,Ci⟩:=hl x h2;obtain⟨s,hs⟩:=Option.isSome_iff_exists.1 hs;have hv:v= .int .i64 s:=by
   have e:=(hk x Ci).1;rw[h4,hs]at e;have e2:sK13.R v=some (sK13.E (some s),y.2):=by rw[h3,<-e]
   exact sK13.inv v _ _ e2
  subst hv;exact .inr ⟨x,s,w',cnt',hs,h2,λty=>h5,⟨D,h6,hk,hr⟩,h7,h8,h9,ZN⟩
end
theorem zif:(Lit.int .i64 x).sameKey (.int .i64 y)=decide (x=y):=by
 by_cases e:x=y
 ·subst e;rw[decide_eq_true rfl];exact WideAt.sameKey_self trivial
 ·rw[decide_eq_false e]
  cases h:(Lit.int .i64 x).sameKey (.int .i64 y) with
  | false=>rfl
  | true=>exact absurd (by have:=WideAt.sameKey_eq h;injection this) e
structure FWE (FB:World->Nat->(Nat->Prop)->FD->Prop):Prop where
 keep_:∀w w' g F D,FB w g F D->(∀b,F b->w'.heap[b]? =w.heap[b]?)->FB w' g F D
 inb:∀w g F D,FB w g F D->∀b,F b->b<w.heap.size
 new:∀w:World,Calls prog 67 #[] w λe w'=>∃g F,e= .returned (.pointer (some ⟨g,0,none⟩))/\FB w' g F FD0/\(∀b,F b->w.heap.size<=b)/\Bw w w'
 put:∀ (w:World) g F D (a:Option Addr) (n cap:Nat) (l:List Nd),DOk D->D.L.length<=300->FB w g F D->n<=300->zyB w a n l->(∀m∈l,Rg m.id/\Rg m.par)->Calls prog 70 #[.pointer (some ⟨g,0,none⟩),.slice a n cap] w λe w'=>e= .returned (.int .i64 (zct D l))/\ChX FB w w' g F (zcz D l)
 drop:∀ (w:World) g F D (a:Option Addr) (n cap:Nat) (xs:List Int),DOk D->D.L.length<=300->FB w g F D->n<=1000->Row w a n xs->Aw F a n->Rgs xs->Calls prog 69 #[.pointer (some ⟨g,0,none⟩),.slice a n cap] w λe w'=>e= .returned (.int .i64 (zeX D xs:Nat))/\ChX FB w w' g F (zbr D xs)
 run:∀ (w:World) g F D,DOk D->D.L.length<=300->D.steps<=1000000->FB w g F D->Calls prog 72 #[.pointer (some ⟨g,0,none⟩)] w λe w'=>∃v,e= .returned (.tuple #[v,.int .i64 (zey D)])/\LRes w w' (zah D) v/\ChR FB w w' g F (zc4 D)
 state:∀ (w:World) g F D (x:Int),DOk D->D.L.length<=300->FB w g F D->Rg x->Calls prog 137 #[.pointer (some ⟨g,0,none⟩),.int .i64 x] w λe w'=>∃Y,e= .returned (.tuple #[.agg (toArray Y),.bool (zfM D x).isSome])/\Y=cFs ((zfM D x).getD zSt)/\Bw w w'
section
variable {FB:World->Nat->(Nat->Prop)->FD->Prop}
theorem FWE.keep(h:FWE FB){w w':World}{g:Nat}{F:Nat->Prop}{D:FD}(hs:FB w g F D)(hb:Bw w w'):FB w' g F D:=h.keep_ w w' g F D hs (λb hf=>hb.block b (h.inb w g F D hs b hf))
end
def SyR(EB:World->Nat->(Nat->Prop)->XS->Prop)(XB:World->Nat->(Nat->Prop)->Sc->Prop)(w w':World)(g gs:Nat)(F Fs:Nat->Prop)(E:XS)(X:Sc):Prop:=
 ∃F' Sp,EB w' g F' E/\XB w' gs Sp X/\Fr w w' (λb=>F b∨Fs b)/\(∀b,F' b->F b∨w.heap.size<=b)/\(∀b,Sp b->Fs b∨w.heap.size<=b)/\∀b,F' b->¬Sp b
structure EC (EB:World->Nat->(Nat->Prop)->XS->Prop) (XB:World->Nat->(Nat->Prop)->Sc->Prop):Prop where
 kb:KB EB
 new:∀w:World,Calls prog 10 #[] w λe w'=>∃g F,e= .returned (.pointer (some ⟨g,0,none⟩))/\EB w' g F XS0/\(∀b,F b->w.heap.size<=b)/\Bw w w'
 forget:∀ (w:World) g F E,EB w g F E->Calls prog 11 #[.pointer (some ⟨g,0,none⟩)] w λe w'=>e= .returned (.tuple #[])/\ChB EB w w' g F (XSn E.n)
 records:∀ (w:World) g F E,EB w g F E->E.R.length<=2000->Calls prog 20 #[.pointer (some ⟨g,0,none⟩)] w λe w'=>∃v,e= .returned v/\OwnX 12 cRc 92 w' w.heap.size v E.R/\Bw w w'
 slot:∀ (w:World) g F E (x:Int),EB w g F E->SI E.S->Rg x->Calls prog 22 #[.pointer (some ⟨g,0,none⟩),.int .i64 x] w λe w'=>e= .returned (.int .i64 (zau E.S x))/\Bw w w'
 steps:∀ (w:World) g F E,EB w g F E->Calls prog 21 #[.pointer (some ⟨g,0,none⟩)] w λe w'=>e= .returned (.int .i64 E.n)/\Bw w w'
 sync:∀ (w:World) g F E gs Fs X,EB w g F E->XB w gs Fs X->(∀b,F b->¬Fs b)->SX3 X->EOk X E->BSc X 250->EBd E 100->(∀p∈E.S,p.2<256)->X.S.room<=19->Calls prog 13 #[.pointer (some ⟨g,0,none⟩),.pointer (some ⟨gs,0,none⟩)] w λe w'=>∃v zs er E',e= .returned (.tuple #[v,.int .i64 er])/\LRes w w' zs v/\Synced X E zs er E'/\SyR EB XB w w' g gs F Fs E' (zfY X)
structure EN:Prop where
 forget:∀w:World,Calls prog 11 #[.pointer none] w λe w'=>e= .returned (.tuple #[])/\w=w'
 sync:∀ (w:World) (s:Value),Calls prog 13 #[.pointer none,s] w λe w'=>e= .returned (.tuple #[.slice none 0 0,.int .i64 1])/\w=w'
 nos:∀ (w:World) (g:Nat),Calls prog 13 #[.pointer (some ⟨g,0,none⟩),.pointer none] w λe w'=>e= .returned (.tuple #[.slice none 0 0,.int .i64 1])/\w=w'
 records:∀w:World,Calls prog 20 #[.pointer none] w λe w'=>e= .returned (.slice none 0 0)/\w=w'
 slot:∀ (w:World) (x:Int),Calls prog 22 #[.pointer none,.int .i64 x] w λe w'=>e= .returned (.int .i64 (-1))/\w=w'
 steps:∀w:World,Calls prog 21 #[.pointer none] w λe w'=>e= .returned (.int .i64 0)/\w=w'
structure LEx (FB:World->Nat->(Nat->Prop)->FD->Prop) (w:World) (g gf:Nat) (Ff:Nat->Prop) (vr:Value) (mb:Nat) (E:XS):Prop where
 blk:Blk w g 111 #[.pointer (some ⟨gf,0,none⟩),vr,.map (some mb),.int .i64 E.since,.int .i64 E.n]
 fl:FB w gf Ff E.D
 rc:OwnX 12 cRc 92 w 0 vr E.R
 mp:MF sK13 w mb (slM E.S)
 gF:¬Ff g
 mF:¬Ff mb
 mg:mb≠g
 rF:∀b,vr.ownBlock=some b->b≠g/\b≠mb/\¬Ff b
def zkG(g:Nat)(Ff:Nat->Prop)(vr:Value)(mb:Nat)(b:Nat):Prop:=b=g∨Ff b∨vr.ownBlock=some b∨b=mb
def LEB(FB:World->Nat->(Nat->Prop)->FD->Prop)(w:World)(g:Nat)(F:Nat->Prop)(E:XS):Prop:=∃gf Ff vr mb,LEx FB w g gf Ff vr mb E/\∀b,F b↔zkG g Ff vr mb b
section
variable {FB:World->Nat->(Nat->Prop)->FD->Prop} {w w':World} {g gf mb:Nat} {F Ff:Nat->Prop} {vr:Value} {E:XS}
theorem LEx.same(hC:FWE FB)(h:LEx FB w g gf Ff vr mb E)(he:∀b,zkG g Ff vr mb b->w'.heap[b]? =w.heap[b]?):LEx FB w' g gf Ff vr mb E:=
 ⟨h.blk.same (he g (.inl rfl)),hC.keep_ _ _ _ _ _ h.fl (λb c=>he b (.inr (.inl c))),h.rc.same (λb c=>he b (.inr (.inr (.inl c)))),h.mp.same (he mb (.inr (.inr (.inr rfl)))),h.gF,h.mF,h.mg,h.rF⟩
theorem LEx.inb(hC:FWE FB)(h:LEx FB w g gf Ff vr mb E):∀b,zkG g Ff vr mb b->b<w.heap.size:=by
 rintro b (c | c | c | c)
 ·rw[c];exact h.blk.lt
 ·exact hC.inb _ _ _ _ h.fl b c
 ·exact (h.rc.lt b c).2
 ·rw[c];exact h.mp.lt
theorem LEx.keep(hC:FWE FB)(h:LEx FB w g gf Ff vr mb E)(hb:Bw w w'):LEx FB w' g gf Ff vr mb E:=h.same hC (λb c=>hb.block b (h.inb hC b c))
set_option linter.unusedVariables false in
theorem zvB(hC:FWE FB):KB (LEB FB):=⟨λ_ _ _ _ _ ⟨gf,Ff,vr,mb,h,hF⟩ he=>⟨gf,Ff,vr,mb,h.same hC (λb c=>he b ((hF b).2 c)),hF⟩,λ_ _ _ _ ⟨gf,Ff,vr,mb,h,hF⟩ b c=>h.inb hC b ((hF b).1 c)⟩
end
theorem zuv(gf mb:Nat)(W:World):(Instr.build 111 #[(0,.agg #[.pointer (some ⟨gf,0,none⟩),.slice none 0 0,.map (some mb),.int .i64 0])]).run prog W= .ok (.agg #[.pointer (some ⟨gf,0,none⟩),.slice none 0 0,.map (some mb),.int .i64 0,.int .i64 0]) W:=oM
theorem zkH{ops:Array Oper}{rest:List Oper}{op:Oper}{a:Go.Act}{Q:Exit->Go.Act->World->Prop}(kX:op.guard=none)(t:TypeId)(x:Operand)(i:Nat)(ho:op.op= .build t #[(i,x)])(vx vr:Value)(hx:a.eval x=vx)
  (Hi:∀W,(Instr.build t #[(i,vx)]).run prog W= .ok vr W)
  (h:wpList prog ops Q rest (a.put op.dst vr) w):wpList prog ops Q (op::rest) a w:=
 wpList_plain kX λK hK=>by
  have h2:=hK _ _ h;unfold Oper.wp execOp;simp only[ho];simp[hx,Hi];exact h2
def cRt(gf mb:Nat):List Value:=[.pointer (some ⟨gf,0,none⟩),.slice none 0 0,.map (some mb),.int .i64 0]
theorem zxw(gf mb:Nat):(prog.info? 108).map (·.size)=some (cRt gf mb).length:=oM
section
variable {FB:World->Nat->(Nat->Prop)->FD->Prop}
theorem zho(hC:FWE FB)(w:World):Calls prog 31 #[] w λe w'=>∃gf Ff mb,e= .returned (.agg (cRt gf mb).toArray)/\FB w' gf Ff FD0/\MF sK13 w' mb (λ_=>none)/\¬Ff mb/\(∀b,Ff b->w.heap.size<=b)/\w.heap.size<=mb/\Bw w w':=by
 have X3:= @run_makeMap prog;have yo:=kA hC.new;have HK:Hid (∀w1 w2 gf Ff,FB w1 gf Ff FD0->(∀b,Ff b->w2.heap[b]? =w1.heap[b]?)->FB w2 gf Ff FD0):=kA (λw1 w2 gf Ff h hb=>hC.keep_ _ _ _ _ _ h hb);have HI:Hid (∀w1 gf Ff,FB w1 gf Ff FD0->∀b,Ff b->b<w1.heap.size):=kA (λw1 gf Ff h=>hC.inb _ _ _ _ h);clear hC;go_enter func31,ntmps31;go_upto_region 1 with fail;have B0:=zaa w (.cells #[.pointer none,.slice none 0 0,.map none,.int .i64 0] 108);have K0:=Blk.new w 108 #[.pointer none,.slice none 0 0,.map none,.int .i64 0];refine fin (λW=>Blk W w.heap.size 108 #[.pointer none,.slice none 0 0,.map none,.int .i64 0]/\Bw w W) ⟨K0,B0⟩ ?_;clear K0 B0;rintro W0 ⟨k0,b0⟩;go_wp2_with fail;refine (yo W0).mono ?_;rintro e w1 ⟨gf,Ff,rfl,h1,h2,h3⟩;have Hf:Bw w1 (w1.alloc (.map #[] 0)):=zaa _ _;have k2:=(k0.keep h3).keep Hf;have SG:w.heap.size<W0.heap.size:=k0.lt;have Jb:w.heap.size<w1.heap.size:=(k0.keep h3).lt;have q2:=HI.out _ _ _ h1;have hst:Bw w ((w1.alloc (.map #[] 0)).setCells w.heap.size 0 (cRt gf w1.heap.size)):=zab _ (zad (zad b0 h3) Hf) (Nat.le_refl _);have Hj:(w1.alloc (.map #[] 0)).grownBy ((w1.alloc (.map #[] 0)).setCells w.heap.size 0 (cRt gf w1.heap.size)) (some w.heap.size):=zbQ _ _ _ _
 have HE:Hid (Blk ((w1.alloc (.map #[] 0)).setCells w.heap.size 0 (cRt gf w1.heap.size)) w.heap.size 108 (cRt gf w1.heap.size).toArray/\FB ((w1.alloc (.map #[] 0)).setCells w.heap.size 0 (cRt gf w1.heap.size)) gf Ff FD0/\MF sK13 ((w1.alloc (.map #[] 0)).setCells w.heap.size 0 (cRt gf w1.heap.size)) w1.heap.size (λ_=>none)/\¬Ff w1.heap.size/\(∀b,Ff b->w.heap.size<=b)/\w.heap.size<=w1.heap.size/\Bw w ((w1.alloc (.map #[] 0)).setCells w.heap.size 0 (cRt gf w1.heap.size))):=kA ⟨zal (Z:=[.pointer none,.slice none 0 0,.map none,.int .i64 0]) k2 rfl,HK _ _ _ _ h1 (λb c=>by
  have h4:=q2 b c;have h5:=h2 b c
  exact (Hj.block b (Nat.lt_of_lt_of_le h4 Hf.size) (by intro e;injection e with e;omega)).trans (Hf.block b h4)),(MF.new sK13 w1).same (Hj.block _ (by simp) (by intro e;injection e with e;omega)),λc=>by have:=q2 _ c;omega,λb c=>Nat.le_trans b0.size (h2 b c),om,hst⟩
 obtain⟨c0,c1,c2,c3⟩:=zzy k2;have f0:=k2.frozen 0;have f1:=k2.frozen 1;have f2:=k2.frozen 2;have f3:=k2.frozen 3;have cj:=k2.lt;clear k0 h1 h2 h3 k2 q2 hst Hf b0 yo HK HI Jb SG Hj;go_wp2;refine fin (λW=>Blk W w.heap.size 108 (cRt gf w1.heap.size).toArray/\FB W gf Ff FD0/\MF sK13 W w1.heap.size (λ_=>none)/\¬Ff w1.heap.size/\(∀b,Ff b->w.heap.size<=b)/\w.heap.size<=w1.heap.size/\Bw w W) HE ?_;rintro W ⟨k,h1,h2,h3,h4,h5,h6⟩;have hl:=run_loadVar_mid W w.heap.size 0 108 (cRt gf w1.heap.size) _ (zac k) underlying108 rfl (zxw _ _)
 (try simp only[Act.put,setIfInBounds_toArray])
 exact bodyPost_ret (v:= .agg (cRt gf w1.heap.size).toArray) (zaD results31 rfl hl) rfl ⟨gf,Ff,w1.heap.size,rfl,h1,h2,h3,h4,h5,h6⟩
theorem zr5(hC:FWE FB)(w:World):Calls prog 10 #[] w λe w'=>∃g F,e= .returned (.pointer (some ⟨g,0,none⟩))/\LEB FB w' g F XS0/\(∀b,F b->w.heap.size<=b)/\Bw w w':=by
 have HN:=kA (zho hC w)
 have dz:Hid (∀w1 gf Ff mb,FB w1 gf Ff FD0->MF sK13 w1 mb (λ_=>none)->¬Ff mb->(∀b,Ff b->w.heap.size<=b)->w.heap.size<=mb->Bw w w1->∃F,LEB FB (w1.alloc (.cells #[.pointer (some ⟨gf,0,none⟩),.slice none 0 0,.map (some mb),.int .i64 0,.int .i64 0] 111)) w1.heap.size F XS0/\(∀b,F b->w.heap.size<=b)/\Bw w (w1.alloc (.cells #[.pointer (some ⟨gf,0,none⟩),.slice none 0 0,.map (some mb),.int .i64 0,.int .i64 0] 111))):=kA (λw1 gf Ff mb h1 h2 h3 h4 h5 h6=>by
  have Hf:=zaa w1 (.cells #[.pointer (some ⟨gf,0,none⟩),.slice none 0 0,.map (some mb),.int .i64 0,.int .i64 0] 111);have hin:=hC.inb _ _ _ _ h1;have NI:=h2.lt;refine⟨zkG w1.heap.size Ff (.slice none 0 0) mb,⟨gf,Ff,.slice none 0 0,mb,⟨Blk.new w1 _ _,hC.keep h1 Hf,OwnX.nil _ _ _ _ _,by rw[show XS0.S=[] from rfl,zr2];exact h2.keep Hf,λc=>by have:=hin _ c;omega,h3,om,λb c=>by cases c⟩,λ_=>Iff.rfl⟩,?_,zad h6 Hf⟩;rintro b (c | c | c | c)
  ·rw[c];exact h6.size
  ·exact h4 b c
  ·cases c
  ·rw[c];exact h5)
 go_enter func10,ntmps10;go_wp2_with fail;refine HN.mono ?_;rintro e w1 ⟨gf,Ff,mb,rfl,h1,h2,h3,h4,h5,h6⟩;have HE:=kA (dz w1 gf Ff mb h1 h2 h3 h4 h5 h6);have hb:∀W,(Instr.build 111 #[(0,.agg (cRt gf mb).toArray)]).run prog W= .ok (.agg #[.pointer (some ⟨gf,0,none⟩),.slice none 0 0,.map (some mb),.int .i64 0,.int .i64 0]) W:=zuv gf mb;clear h1 h2 h3 h4 h5 h6 dz HN;go_wp2_with (refine zkH rfl 111 (.tmp 1) 0 rfl (.agg (cRt gf mb).toArray) _ rfl hb ?_);go_ret;obtain⟨F,k1,k2,k3⟩:=HE;exact⟨_,F,rfl,k1,k2,k3⟩
theorem zfR(hC:FWE FB){w:World}{g:Nat}{F:Nat->Prop}{E:XS}(h0:LEB FB w g F E):Calls prog 11 #[.pointer (some ⟨g,0,none⟩)] w λe w'=>e= .returned (.tuple #[])/\ChB (LEB FB) w w' g F (XSn E.n):=by
 obtain⟨gf,Ff,vr,mb,h,hF⟩:=h0;have HN:=kA (zho hC w)
 have dz:Hid (∀w1 Yu KJ xo,FB w1 Yu KJ FD0->MF sK13 w1 xo (λ_=>none)->¬KJ xo->(∀b,KJ b->w.heap.size<=b)->w.heap.size<=xo->Bw w w1->ChB (LEB FB) w (w1.setCells g 0 (cRt Yu xo)) g F (XSn E.n)):=kA (λw1 Yu KJ xo h1 h2 h3 h4 h5 h6=>by
  have Hj:=zbQ (cRt Yu xo) w1 g 0;have hin:=hC.inb _ _ _ _ h1;have cj:=h.blk.lt;have hk:Blk w1 g 111 ([.pointer (some ⟨gf,0,none⟩),vr,.map (some mb),.int .i64 E.since,.int .i64 E.n]:List Value).toArray:=h.blk.keep h6;have xA:=zaf (cRt Yu xo) (o:=0) hk (by show 0+4<=5;omega);refine⟨zkG g KJ (.slice none 0 0) xo,⟨Yu,KJ,.slice none 0 0,xo,⟨xA,hC.keep_ _ _ _ _ _ h1 (λb c=>Hj.block b (hin b c) (by intro e;injection e with e;have:=h4 b c;omega)),OwnX.nil _ _ _ _ _,by rw[show (XSn E.n).S=[] from rfl,zr2];exact h2.same (Hj.block _ h2.lt (by intro e;injection e with e;omega)),λc=>by have:=h4 _ c;omega,h3,om,λb c=>by cases c⟩,λ_=>Iff.rfl⟩,?_,?_⟩
  ·exact⟨Hj.os.trans h6.os,Hj.tape.trans h6.tape,Hj.output.trans h6.output,Nat.le_trans h6.size Hj.size,λb hb hn=>(Hj.block b (Nat.lt_of_lt_of_le hb h6.size) (by intro e;injection e with e;exact hn ((hF b).2 (.inl e)))).trans (h6.block b hb)⟩
  ·rintro b (c | c | c | c)
   ·exact .inl ((hF b).2 (.inl c))
   ·exact .inr (h4 b c)
   ·cases c
   ·rw[c];exact .inr h5)
 have Ro:Hid (∀W,Bw w W->Blk W g 111 #[.pointer (some ⟨gf,0,none⟩),vr,.map (some mb),.int .i64 E.since,.int .i64 E.n]):=kA (λW q=>h.blk.keep q);clear hC h hF;go_enter func11,ntmps11;go_wp2_with fail;refine HN.mono ?_;rintro e w1 ⟨Yu,KJ,xo,rfl,h1,h2,h3,h4,h5,h6⟩;have HE:=kA (dz w1 Yu KJ xo h1 h2 h3 h4 h5 h6);have k2:=Ro.out w1 h6;have c0:=k2.cell 0;have c1:=k2.cell 1;have c2:=k2.cell 2;have c3:=k2.cell 3;have f0:=k2.frozen 0;have f1:=k2.frozen 1;have f2:=k2.frozen 2;have f3:=k2.frozen 3;have cj:=k2.lt;unfold cRt at HE ⊢;clear h1 h2 h3 h4 h5 h6 k2 dz HN Ro;go_wp2;go_end0;exact⟨rfl,HE⟩
theorem zjh(h0:LEB FB w g F E)(hl:E.R.length<=2000):Calls prog 20 #[.pointer (some ⟨g,0,none⟩)] w λe w'=>∃v,e= .returned v/\OwnX 12 cRc 92 w' w.heap.size v E.R/\Bw w w':=by
 obtain⟨gf,Ff,vr,mb,h,hF⟩:=h0;obtain⟨a,cap,rfl,hcap,hm,Hd⟩:=h.rc.row zaC;have DV:=kA (zkq a E.R.length cap E.R w Hd om);have c1:w.cell? ⟨g,1,none⟩=some (.slice a E.R.length cap):=h.blk.cell 1;have cj:=h.blk.lt;obtain⟨n,hn⟩:∃n,n=E.R.length:=⟨_,rfl⟩;rw[<-hn]at DV c1;clear h hF hcap hm Hd hn hl;go_enter func20,ntmps20;go_wp2_with fail;refine DV.mono ?_;rintro e w1 ⟨v,rfl,ho,hb⟩;have HO:=kA (And.intro ho hb);clear ho hb DV;go_wp2;go_ret;exact⟨v,rfl,HO.1,HO.2⟩
theorem zoR(h0:LEB FB w g F E)(hS:SI E.S)(x:Int)(hx:Rg x):Calls prog 22 #[.pointer (some ⟨g,0,none⟩),.int .i64 x] w λe w'=>e= .returned (.int .i64 (zau E.S x))/\Bw w w':=by
 obtain⟨gf,Ff,vr,mb,h,hF⟩:=h0;have c2:w.cell? ⟨g,2,none⟩=some (.map (some mb)):=h.blk.cell 2;have cj:=h.blk.lt;have dd:(Instr.lookup 106 (.map (some mb)) (.int .i64 x) true).run prog w= .ok (.tuple #[.int .i64 ((slM E.S x).getD 0),.bool (slM E.S x).isSome]) w:=h.mp.look hx
 by_cases c:0<=zau E.S x
 ·have e1:slM E.S x=some (zau E.S x):=if_pos c;rw[e1]at dd;obtain⟨s,hs⟩:∃s,s=zau E.S x:=⟨_,rfl⟩;rw[<-hs]at dd ⊢;have Vi:(Instr.lookup 106 (.map (some mb)) (.int .i64 x) true).run prog w= .ok (.tuple #[.int .i64 s,.bool true]) w:=dd;clear h hF dd e1 c hs hS hx;go_enter func22,ntmps22;go_wp2;go_ret;exact⟨rfl,Below.refl _ _⟩
 ·have e1:slM E.S x=none:=if_neg c;have e2:zau E.S x= -1:=zcO (λm=>c ((zbd hS).2 m));rw[e1]at dd;rw[e2];have Vi:(Instr.lookup 106 (.map (some mb)) (.int .i64 x) true).run prog w= .ok (.tuple #[.int .i64 0,.bool false]) w:=dd;clear h hF dd e1 e2 c hS hx;go_enter func22,ntmps22;go_wp2;go_ret;exact⟨rfl,Below.refl _ _⟩
theorem zma(h0:LEB FB w g F E):Calls prog 21 #[.pointer (some ⟨g,0,none⟩)] w λe w'=>e= .returned (.int .i64 E.n)/\Bw w w':=by
 obtain⟨gf,Ff,vr,mb,h,hF⟩:=h0;have c4:w.cell? ⟨g,4,none⟩=some (.int .i64 E.n):=h.blk.cell 4;have cj:=h.blk.lt;obtain⟨n,hn⟩:∃n:Int,n=(E.n:Int):=⟨_,rfl⟩;rw[<-hn]at c4 ⊢;clear h hF hn;go_enter func21,ntmps21;go_wp2;go_ret;exact⟨rfl,Below.refl _ _⟩
end
end Go.Proofs.YtlibdcmcbinfnaaGreat
