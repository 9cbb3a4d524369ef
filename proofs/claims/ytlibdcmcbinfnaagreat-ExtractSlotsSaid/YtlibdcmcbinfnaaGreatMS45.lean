/- Lemmas. -/
import Derived.Test.YtlibdcmcbinfnaaGreatMS44
import Derived.JoinedOf
set_option maxHeartbeats 100000000
set_option maxRecDepth 1000000
namespace Go.Proofs.YtlibdcmcbinfnaaGreat
open _root_.Go.Proofs.Tryz List Nat
open Go.RowKit
variable{u w w':World}{xs:List Int}{F:Nat->Prop}{g:Nat}{D:FD}
section
variable {w:World} {p:Wp} {D:FD}
theorem zkV{q:Wp}(Hg:ChL w u p q)(hD:DOk D)(hL:LIf D q){x:Int}(hx:Rg x)(hd:zcw D x=true)(Dq:D.L.length<=300):
  u.cell? ⟨q.g,0,none⟩=some (.pointer (some ⟨q.gf,0,none⟩))/\q.g<u.heap.size/\Calls prog 121 #[.pointer (some ⟨q.gf,0,none⟩),.int .i64 x] u λe w1=>∃a n cap,e= .returned (.slice a n cap)/\
   Calls prog 120 #[.pointer (some ⟨q.g,0,none⟩),.slice a n cap] w1 λe w2=>e= .returned (.tuple #[])/\w2.cell? ⟨q.g,0,none⟩=some (.pointer (some ⟨q.gf,0,none⟩))/\q.g<w2.heap.size/\
    Calls prog 95 #[.pointer (some ⟨q.gf,0,none⟩),.slice (some ⟨w2.heap.size,0,none⟩) 1 1] (w2.alloc (.cells #[.int .i64 x] 81)) λe w3=>∃z,e= .returned (.int .i64 z)/\
     ∃w4 w5 w6 q',w3.cell? ⟨q.g,1,none⟩=some (.map (some q.gn))/\q.g<w3.heap.size/\(∀ty,(Builtin.delete_ #[197,81] ty #[.map (some q.gn),.int .i64 x]).run prog w3= .ok (.tuple #[]) w4)/\
      w4.cell? ⟨q.g,2,none⟩=some (.map (some q.gs))/\q.g<w4.heap.size/\(∀ty,(Builtin.delete_ #[198,81] ty #[.map (some q.gs),.int .i64 x]).run prog w4= .ok (.tuple #[]) w5)/\
      w5.cell? ⟨q.g,3,none⟩=some (.map (some q.gm))/\q.g<w5.heap.size/\(∀ty,(Builtin.delete_ #[199,81] ty #[.map (some q.gm),.int .i64 x]).run prog w5= .ok (.tuple #[]) w6)/\
      q'.g=q.g/\ChL w w6 p q'/\LIf (za2 D x) q':=by
 have h:=Hg.1;have zH:=hL.len;refine⟨h.cells.1,h.cells.2.2.2.2.2,?_⟩;obtain⟨gp,gc,bl,cp,Kw,_⟩:=h.fo;refine (zeS Kw (show q.T.length<=1000 by omega) hx).mono ?_;rintro e w1 ⟨v,rfl,Hc,kj⟩;obtain⟨a,cap,rfl,Hd⟩:=Hc.row;have h1:=h.keep kj;have Kt:Aw (zba q) a (chF q.T x).length:=by
  by_cases z:(chF q.T x).length=0
  ·exact .inl z
  ·refine .inr (λad e hf=> ?_);have k1:=h.inb _ hf;have k2:=(World.ownsRow.lt Hc ad.block (by rw[e];rfl)).1;omega
 have Ci:Rgs (chF q.T x):=λz hz=>zq7 hL.wf.1 Kw.rng hz;refine⟨a,_,cap,rfl,(zfC h1 (by have:=zen q.T x;omega) Hd Kt Ci (D.L.map Nd.id) (λy hy=>ziW.1 ((hL.mrk y).1 hy).1) (by rw[length_map];omega)).mono ?_⟩;rintro e w2 ⟨rfl,di⟩;have c2:=di.1.cells;refine⟨rfl,c2.1,c2.2.2.2.2.2,(di.1.free1 hL.wf (show q.T.length<=1000 by omega) hx).mono ?_⟩;rintro e w3 ⟨z,rfl,Ff,Xe⟩;obtain⟨w4,r4,m4,g4⟩:=Xe.1.nod.del hx;have jp:=Xe.1.setN m4 g4;obtain⟨w5,r5,m5,g5⟩:=jp.1.sts.del hx;have jq:=jp.1.setS m5 g5;obtain⟨w6,r6,m6,g6⟩:=jq.1.mrk.del hx;have nM:=jq.1.setM m6 g6;refine⟨z,rfl,w4,w5,w6,zzn q x Ff,Xe.1.cells.2.1,Xe.1.cells.2.2.2.2.2,r4,jp.1.cells.2.2.1,jp.1.cells.2.2.2.2.2,r5,jq.1.cells.2.2.2.1,jq.1.cells.2.2.2.2.2,r6,rfl,?_,hL.drop hD hd Ff⟩;exact (((((Hg.join (ChL.still h kj)).join di).join Xe).join jp).join jq).join nM
theorem zpf(hD:DOk D)(hL:LIf D p)(h:LW w p){a:Option Addr}{n cap:Nat}{xs:List Int}(row:Row w a n xs)(ha:Aw (zba p) a n)(hx:Rgs xs)(hn:n<=1000)(Dq:D.L.length<=300):
  Calls prog 69 #[.pointer (some ⟨p.g,0,none⟩),.slice a n cap] w λe w'=>e= .returned (.int .i64 (zeX D xs:Nat))/\∃q,q.g=p.g/\ChL w w' p q/\LIf (zbr D xs) q:=by
 have Hy:=row.2.1;have Kb:=kA row.1;have hJ:Hid (∀u q,ChL w u p q->Row u a n xs):=kA (λu q k=>zbI row ha k.2.1);have Hu:Hid (∃q,q.g=p.g/\ChL w w p q/\LIf (zbr D (xs.take 0)) q):=kA ⟨p,rfl,ChL.still h (Below.refl _ _),hL⟩
 have CK:Hid (∀u q j z,q.g=p.g->ChL w u p q->LIf (zbr D (xs.take j)) q->Rg z->Calls prog 119 #[.pointer (some ⟨p.g,0,none⟩),.int .i64 z] u λe w'=>e= .returned (.bool (zcw (zbr D (xs.take j)) z))/\ChL w w' p q):=kA (λu q j z e k hq hz=>by
  rw[<-e];refine (zkP k.1 hz).mono ?_;rintro e w' ⟨rfl,hb⟩;refine⟨?_,k.behind hb⟩;rw[hq.nodS]
  rfl)
 have Hw:Hid (∀u q j z,q.g=p.g->ChL w u p q->LIf (zbr D (xs.take j)) q->xs[j]? =some z->zcw (zbr D (xs.take j)) z=true->u.cell? ⟨p.g,0,none⟩=some (.pointer (some ⟨q.gf,0,none⟩))/\p.g<u.heap.size/\Calls prog 121 #[.pointer (some ⟨q.gf,0,none⟩),.int .i64 z] u λe w1=>∃a n cap,e= .returned (.slice a n cap)/\
   Calls prog 120 #[.pointer (some ⟨p.g,0,none⟩),.slice a n cap] w1 λe w2=>e= .returned (.tuple #[])/\w2.cell? ⟨p.g,0,none⟩=some (.pointer (some ⟨q.gf,0,none⟩))/\p.g<w2.heap.size/\
    Calls prog 95 #[.pointer (some ⟨q.gf,0,none⟩),.slice (some ⟨w2.heap.size,0,none⟩) 1 1] (w2.alloc (.cells #[.int .i64 z] 81)) λe w3=>∃y,e= .returned (.int .i64 y)/\
     ∃w4 w5 w6,w3.cell? ⟨p.g,1,none⟩=some (.map (some q.gn))/\p.g<w3.heap.size/\(∀ty,(Builtin.delete_ #[197,81] ty #[.map (some q.gn),.int .i64 z]).run prog w3= .ok (.tuple #[]) w4)/\
      w4.cell? ⟨p.g,2,none⟩=some (.map (some q.gs))/\p.g<w4.heap.size/\(∀ty,(Builtin.delete_ #[198,81] ty #[.map (some q.gs),.int .i64 z]).run prog w4= .ok (.tuple #[]) w5)/\
      w5.cell? ⟨p.g,3,none⟩=some (.map (some q.gm))/\p.g<w5.heap.size/\(∀ty,(Builtin.delete_ #[199,81] ty #[.map (some q.gm),.int .i64 z]).run prog w5= .ok (.tuple #[]) w6)/\
      ∃q',q'.g=p.g/\ChL w w6 p q'/\LIf (zbr D (xs.take (j+1))) q'):=kA (λu q j z e k hq hz hd=>by
  have hs:=(zfu (xs.take j) D 300 Dq).1;obtain⟨c1,c2,c3⟩:=zkV k (DOk.drops _ hD) hq (hx z (mem_of_getElem? hz)) hd om;rw[e]at c1 c2 c3;refine⟨c1,c2,c3.mono ?_⟩;rintro e1 w1 ⟨a,n,cap,rfl,h2⟩;refine⟨a,n,cap,rfl,h2.mono ?_⟩;rintro e2 w2 ⟨rfl,d1,d2,h3⟩;refine⟨rfl,d1,d2,h3.mono ?_⟩;rintro e3 w3 ⟨y,rfl,w4,w5,w6,q',k1,k2,k3,k4,k5,k6,k7,k8,k9,nN,Y9,nP⟩;refine⟨y,rfl,w4,w5,w6,k1,k2,k3,k4,k5,k6,k7,k8,k9,q',nN,Y9,?_⟩;rw[zhZ hz]
  exact nP)
 have Hm:Hid (∀j z,xs[j]? =some z->zcw (zbr D (xs.take j)) z=false->zbr D (xs.take (j+1))=zbr D (xs.take j)):=kA (λj z hz hd=>by
  rw[zhZ hz];unfold za2
  rw[if_neg (by rw[hd];simp)])
 have s6:Hid (∀j z,xs[j]? =some z->zeX D (xs.take (j+1))=zeX D (xs.take j)+(if zcw (zbr D (xs.take j)) z then 1 else 0)):=kA (λj z hz=>zh0 hz)
 have DV:Hid (∀j,zeX D (xs.take j)<=1000):=kA (λj=>by
  have h1:=znh (xs.take j) D;have h2:=row.1;rw[length_take]at h1
  omega)
 have Dj:=kA hx;obtain⟨g,hge⟩:∃g,g=p.g:=⟨_,rfl⟩;rw[<-hge]at Hu CK Hw ⊢;clear h row ha hx hD hL Dq hge;go_enter func69,ntmps69;go_wp2
 go_loopw [5,7,12] (λv5 _ i wr=>∃ (j:Nat) (q:Wp),j<=n/\i= .int .i64 j/\v5= .int .i64 (zeX D (xs.take j):Nat)/\q.g=g/\ChL w wr p q/\LIf (zbr D (xs.take j)) q) (λ_ _ i _=>n - (ivl i).toNat)
 case atStart=>
  obtain⟨q,h1,h2,h3⟩:=Hu;exact⟨0,q,om,rfl,rfl,h1,h2,h3⟩
 case round=>
  clear Hu;obtain⟨j,q,hj,rfl,rfl,Tp,Hg,yw⟩:=hrel;have kO:=hJ.out wr q Hg;have HC:=kA Hg;have Cp:=kA yw;have HQ:=kA Tp;have dj:=DV.out j;clear Hg yw Tp
  by_cases hlt:j<n
  ·obtain⟨b,off,z,rfl,hz,cz⟩:=zch kO hlt;have Ht:=World.block_lt_of_cell? _ _ cz;have HZ:=kA hz;have HH:=kA (CK wr q j z HQ HC Cp (Dj z (mem_of_getElem? hz)));have dK:=kA (s6 j z hz);obtain⟨cn,X8⟩:∃cn,cn=zeX D (xs.take j):=⟨_,rfl⟩;rw[<-X8]at dj dK ⊢;obtain⟨df,s9⟩:∃df,df=zcw (zbr D (xs.take j)) z:=⟨_,rfl⟩;rw[<-s9]at HH dK;have Tq:=kA s9.symm;have j0:(0:Int)<=(j:Int):=om;have j1:(j:Int)<(n:Int):=om;clear kO hz X8 s9 HC;go_wp2_with fail;refine HH.mono ?_;rintro e w1 ⟨rfl,Dd⟩;have zZ:=kA Dd;clear Dd HH
   cases df with
   | false=>
    have HE:Hid (LIf (zbr D (xs.take (j+1))) q):=kA (by rw[Hm.out j z HZ Tq];exact Cp);go_wp2;go_roundw
    case rel=>exact⟨j+1,q,om,by go_num,by rw[dK.out];rfl,HQ.out,zZ.out,HE⟩
    case measure=>simp[ivl] <;> omega
   | true=>
    obtain⟨c0,hg,KU⟩:=Hw.out w1 q j z HQ zZ Cp HZ Tq;have JF:=kA KU;obtain⟨gf,Tr⟩:∃gf,gf=q.gf:=⟨_,rfl⟩;obtain⟨gn,Ts⟩:∃gn,gn=q.gn:=⟨_,rfl⟩;obtain⟨gs,dD⟩:∃gs,gs=q.gs:=⟨_,rfl⟩;obtain⟨gm,yg⟩:∃gm,gm=q.gm:=⟨_,rfl⟩;rw[<-Tr]at JF c0;rw[<-Ts,<-dD,<-yg]at JF;clear KU Tr Ts dD yg;go_wp2_with fail;refine JF.mono ?_;rintro e w2 ⟨ka,kn,kc,rfl,hm⟩;have HM:=kA hm;clear hm JF c0 hg;go_wp2_with fail;refine HM.mono ?_;rintro e w3 ⟨rfl,c0,hg,hf⟩;have HF:=kA hf;clear hf HM;go_wp2_with fail;refine HF.mono ?_;rintro e w4 ⟨y,rfl,w5,w6,w7,c1,z1,r1,c2,z2,r2,c3,z3,r3,hq⟩;have Tt:=kA hq;clear hq HF c0 hg;go_wp2_with (at_builtin;first | refine za9 rfl (.tmp 38) (.tmp 39) 197 81 rfl _ _ rfl rfl (r1 _) ?_ | refine za9 rfl (.tmp 43) (.tmp 44) 198 81 rfl _ _ rfl rfl (r2 _) ?_ | refine za9 rfl (.tmp 48) (.tmp 49) 199 81 rfl _ _ rfl rfl (r3 _) ?_)
    obtain⟨q',xc,Zf,Yi⟩:=Tt.out;have HE:=kA (And.intro xc (And.intro Zf Yi));clear xc Zf Yi Tt;go_roundw
    case rel=>exact⟨j+1,q',om,by go_num,by rw[dK.out];go_num,HE⟩
    case measure=>simp[ivl] <;> omega
  ·obtain rfl:j=n:=om;have e0:xs.take j=xs:=take_of_length_le (by rw[Kb.out];exact Nat.le_refl _);rw[e0]at Cp dj ⊢;have HE:=kA (And.intro HQ.out (And.intro HC.out Cp.out));have j1:¬(j:Int)<(j:Int):=om;clear e0 kO HC Cp HQ;go_wp2;go_ret;exact⟨rfl,q,HE⟩
end
theorem zmv{ops:Array Oper}{rest:List Oper}{op:Oper}{a:Go.Act}{Q:Exit->Go.Act->World->Prop}(kX:op.guard=none)(tm:Operand)(t:TypeId)
  (ho:op.op= .call { callee:= .builtin .clear,args:= #[tm],argTypes:= #[t] })(v:Value)(hm:a.eval tm=v)
  (hr:(Builtin.clear_ #[t] op.type #[v]).run prog w= .ok (.tuple #[]) w')(h:wpList prog ops Q rest (a.put op.dst (.tuple #[])) w'):wpList prog ops Q (op::rest) a w:=by
 refine wpList_plain kX λK hK=> ?_;have h3:=hK _ _ h;unfold Oper.wp execOp;simp only[ho,resolve,invoke,builtin,Sem.run_bind,Sem.run_pure,Result.andThen_ok,map_toArray,map_cons,map_nil,hm,hr];exact h3
theorem zfD{u':World}{v:Value}(h:LRes w u xs v)(hin:∀b,F b->b<w.heap.size)(hf:Fr u u' F):LRes w u' xs v:=by
 obtain⟨a,cap,e,hr,hn⟩:=h;refine⟨a,cap,e,zbI hr ?_ hf,hn⟩;rcases hn with c | c
 ·exact .inl c
 ·exact .inr (λad e zV=>by have:=hin _ zV;have:=c ad e;omega)
theorem zuX{L:List Nd}(h:(L.map Nd.id).Nodup):(zbJ L).Pairwise (·<·):=by
 have h1:(zbJ L).Pairwise (·<=·):=ziR _;have h2:(zbJ L).Nodup:=(za4 _).nodup_iff.2 h;have h3:(zbJ L).Pairwise (·≠·):=h2;exact (h1.and h3).imp (fun {a b} c=>om)
section
variable {w:World} {p:Wp} {D:FD}
theorem LIf.names(hD:DOk D)(hL:LIf D p)(z:Int):z∈zbJ D.L↔Rg z/\(p.N z).isSome=true:=by
 rw[hL.nodS,zbg];constructor
 ·intro h;obtain⟨n,hn,e⟩:=zaM.1 h;exact⟨by rw[<-e];exact (hD.rg n hn).1,h⟩
 ·exact And.right
theorem zjn(hD:DOk D)(hL:LIf D p)(h:LW w p)(Dq:D.L.length<=300){V:World}(hV:Bw w V):
  V.cell? ⟨p.g,0,none⟩=some (.pointer (some ⟨p.gf,0,none⟩))/\V.cell? ⟨p.g,3,none⟩=some (.map (some p.gm))/\Calls prog 130 #[.map (some p.gm)] V λe w1=>∃f,e= .returned f/\w1.cell? ⟨p.g,0,none⟩=some (.pointer (some ⟨p.gf,0,none⟩))/\w1.cell? ⟨p.g,3,none⟩=some (.map (some p.gm))/\
   Calls prog 123 #[f] w1 λe w2=>∃a n cap,e= .returned (.slice a n cap)/\w2.cell? ⟨p.g,0,none⟩=some (.pointer (some ⟨p.gf,0,none⟩))/\w2.cell? ⟨p.g,3,none⟩=some (.map (some p.gm))/\
    Calls prog 129 #[.pointer (some ⟨p.gf,0,none⟩),.slice a n cap] w2 λe w3=>∃v,e= .returned v/\w3.cell? ⟨p.g,0,none⟩=some (.pointer (some ⟨p.gf,0,none⟩))/\w3.cell? ⟨p.g,3,none⟩=some (.map (some p.gm))/\LRes w w3 (zah D) v/\zqX v/\Bw w w3:=by
 have hv:=h.keep hV;have zH:=hL.len;have Tu:∀z,z∈zff (zbT D)↔Rg z/\(p.M z).isSome=true:=λz=>by
  rw[zbY,<-hL.mark_dirty];refine⟨λq=>⟨?_,q⟩,And.right⟩;obtain⟨n,hn,e⟩:=zaM.1 ((hL.mrk z).1 q).1;rw[<-e];exact (hD.rg n hn).1
 have XH:(zff (zbT D)).length<=D.L.length:=by
  have:=zeb (m:=D.L.map Nd.id) (zgZ (zfr (zbT D))) (λz hz=>ziW.1 (zhY (zbY.1 hz)))
  rwa [length_map]at this
 refine⟨hv.cells.1,hv.cells.2.2.2.1,(zze (some p.gm) V).mono ?_⟩;rintro e w1 ⟨rfl,rfl⟩;have Hf:Bw V (V.alloc (.cells #[.map (some p.gm)] 199)):=zaa _ _;have h1:=hv.keep Hf;refine⟨_,rfl,h1.cells.1,h1.cells.2.2.2.1,(zuL hv.mrk (zff (zbT D)) (zfr _) Tu).mono ?_⟩;rintro e w2 ⟨v,rfl,Hc,Kh⟩;obtain⟨a,cap,rfl,Hd⟩:=Hc.row;have h2:=hv.keep Kh;refine⟨a,_,cap,rfl,h2.cells.1,h2.cells.2.2.2.1,?_⟩;obtain⟨gp,gc,bl,cp,Kw,_⟩:=h2.fo;refine (zoX (cap:=cap) Kw hL.wf om om Hd (λz hz=>((Tu z).1 hz).1)).mono ?_;rintro e w3 ⟨v,rfl,XK,DN,KO⟩;have h3:=h2.keep KO;refine⟨v,rfl,h3.cells.1,h3.cells.2.2.2.1,?_,DN,zad (zad hV Kh) KO⟩;have ht:zfK p.T (zff (zbT D))=zah D:=hL.touch hD (λz=>by rw[zbY,hL.mark_dirty]);rw[ht]at XK;obtain⟨a3,c3,e3,r3,n3⟩:=XK;have hs:=(zad hV Kh).size;exact⟨a3,c3,e3,r3,n3.imp id (λq ad e=>by have:=q ad e;omega)⟩
theorem zsE(hD:DOk D)(hL:LIf D p)(h:LW w p)(Dq:D.L.length<=300)(hst:D.steps<=1000000):
  Calls prog 72 #[.pointer (some ⟨p.g,0,none⟩)] w λe w'=>∃v,e= .returned (.tuple #[v,.int .i64 (zey D)])/\LRes w w' (zah D) v/\zqX v/\∃q,q.g=p.g/\zba q=zba p/\ChL w w' p q/\LIf (zc4 D) q:=by
 have KF:=kA (zjn hD hL h Dq (zaw w));have yv:=zdU hD.wf;have jr:=hL.st
 have Ks:Hid (∀W a n cap,Bw w W->LRes w W (zah D) (.slice a n cap)->n=(zah D).length->W.cell? ⟨p.g,4,none⟩=some (.int .i64 p.st)/\W.frozen? ⟨p.g,4,none⟩=false/\p.g<W.heap.size/\∀z,z=((p.st+n:Nat):Int)->Calls prog 131 #[.pointer (some ⟨p.g,0,none⟩),.slice a n cap] (W.setCell ⟨p.g,4,none⟩ (.int .i64 z)) λe w'=>e= .returned (.int .i64 (zey D))/\ChL w w' p (zvN p (zcR D.L (zah D) p.S n) p.M (p.st+n))/\LRes w w' (zah D) (.slice a n cap)):=kA (λW a n cap hb XK hn=>by
  have h1:=h.keep hb;refine⟨h1.cells.2.2.2.2.1,h1.blk.frozen 4,h1.cells.2.2.2.2.2,λz hz=> ?_⟩;have Dd:=(ChL.still h hb).join (h1.setT (p.st+n) hz);have Sa:=zfD XK h.inb (h1.setT (p.st+n) hz).2.1;obtain⟨a',c',e',r',n'⟩:=Sa;injection e' with e1 e2 e3;subst e1 e3;have yw:LIf { D with steps:=p.st+n } { p with st:=p.st+n }:=⟨hL.wf,hL.par,hL.nod,hL.mrk,hL.non,hL.sts,rfl⟩;have nQ:DOk { D with steps:=p.st+n }:=⟨hD.nod,hD.wf,hD.ok,hD.nn,hD.rg,hD.st⟩;have Kt:Aw (zba p) a (zah D).length:=by
   rcases n' with c | c
   ·exact .inl c
   ·exact .inr (λad e hf=>by have:=h.inb _ hf;have:=c ad e;omega)
  rw[hn];have hc:=zkR (cap:=cap) nQ yw Dd.1 (by show D.L.length<=900;omega) r' Kt;refine hc.mono ?_;rintro e w' ⟨rfl,Hg⟩;refine⟨rfl,?_,a,cap,rfl,zbI r' Kt Hg.2.1,n'⟩;have:=Dd.join Hg;rw[hn]at this
  exact this)
 have yM:Hid (∀u n,n=(zah D).length->ChL w u p (zvN p (zcR D.L (zah D) p.S n) p.M (p.st+n))->zey D=0->u.cell? ⟨p.g,3,none⟩=some (.map (some p.gm))/\p.g<u.heap.size/\∃w2,(∀ty,(Builtin.clear_ #[199] ty #[.map (some p.gm)]).run prog u= .ok (.tuple #[]) w2)/\Fr u w2 (zba p)/\∃q,q.g=p.g/\zba q=zba p/\ChL w w2 p q/\LIf (zc4 D) q):=kA (λu n hn k h0=>by
  obtain⟨w2,r2,m2,g2⟩:=k.1.mrk.clear;have hc:=k.1.setM m2 g2;refine⟨k.1.cells.2.2.2.1,k.1.cells.2.2.2.2.2,w2,r2,hc.2.1,zvN p (zcR D.L (zah D) p.S n) (λ_=>none) (p.st+n),rfl,rfl,k.join hc,?_⟩;rw[hn]
  exact hL.runOk hD h0)
 have YV:Hid (∀u n,n=(zah D).length->ChL w u p (zvN p (zcR D.L (zah D) p.S n) p.M (p.st+n))->zey D≠0->Calls prog 132 #[.pointer (some ⟨p.g,0,none⟩)] u λe w1=>∃a n2 cap,e= .returned (.slice a n2 cap)/\Calls prog 120 #[.pointer (some ⟨p.g,0,none⟩),.slice a n2 cap] w1 λe w2=>e= .returned (.tuple #[])/\Fr u w2 (zba p)/\∃q,q.g=p.g/\zba q=zba p/\ChL w w2 p q/\LIf (zc4 D) q):=kA (λu n hn k h0=>by
  refine (zmm k.1 (zbJ D.L) (zuX hD.nod) (λz=>hL.names hD z)).mono ?_;rintro e w1 ⟨v,rfl,Hc,kj⟩;obtain⟨a,cap,rfl,Hd⟩:=Hc.row;have h1:=k.1.keep kj;have Jt:=zrf D.L;refine⟨a,_,cap,rfl,(zfC h1 om Hd ?_ (λz hz=>((hL.names hD z).1 hz).1) (D.L.map Nd.id) (λy hy=>ziW.1 ((hL.mrk y).1 hy).1) (by rw[length_map];omega)).mono ?_⟩
  ·by_cases z:(zbJ D.L).length=0
   ·exact .inl z
   ·refine .inr (λad e hf=> ?_);have k1:=k.1.inb _ hf;have k2:=(World.ownsRow.lt Hc ad.block (by rw[e];rfl)).1;omega
  ·rintro e w2 ⟨rfl,hc⟩;have Tv:=(ChL.still k.1 kj).join hc;refine⟨rfl,Tv.2.1,mkP (zvN p (zcR D.L (zah D) p.S n) p.M (p.st+n)) (zbJ D.L),rfl,rfl,k.join Tv,?_⟩;have:=hL.runNo hD h0 n;rw[<-hn]at this
   exact this)
 have D9:Hid (∀b,zba p b->b<w.heap.size):=kA h.inb;obtain⟨O,hO⟩:∃O,O=zah D:=⟨_,rfl⟩;obtain⟨E,hE⟩:∃E,E=zey D:=⟨_,rfl⟩;rw[<-hO]at KF Ks yM YV yv ⊢;rw[<-hE]at Ks yM YV ⊢;obtain⟨g,hge⟩:∃g,g=p.g:=⟨_,rfl⟩;obtain⟨gf,Xb⟩:∃gf,gf=p.gf:=⟨_,rfl⟩;obtain⟨gm,yG⟩:∃gm,gm=p.gm:=⟨_,rfl⟩;obtain⟨st,xl⟩:∃st,st=p.st:=⟨_,rfl⟩;obtain⟨P,hP⟩:∃P:Nat->Wp,P=λn=>zvN p (zcR D.L O p.S n) p.M (p.st+n):=⟨_,rfl⟩;have js:Hid (∀W a n cap,Bw w W->LRes w W O (.slice a n cap)->n=O.length->W.cell? ⟨g,4,none⟩=some (.int .i64 st)/\W.frozen? ⟨g,4,none⟩=false/\g<W.heap.size/\∀z,z=((st+n:Nat):Int)->Calls prog 131 #[.pointer (some ⟨g,0,none⟩),.slice a n cap] (W.setCell ⟨g,4,none⟩ (.int .i64 z)) λe w'=>e= .returned (.int .i64 E)/\ChL w w' p (P n)/\LRes w w' O (.slice a n cap)):=kA (by rw[hP,hge,xl];exact Ks);have Xf:Hid (∀u n,n=O.length->ChL w u p (P n)->E=0->u.cell? ⟨g,3,none⟩=some (.map (some gm))/\g<u.heap.size/\∃w2,(∀ty,(Builtin.clear_ #[199] ty #[.map (some gm)]).run prog u= .ok (.tuple #[]) w2)/\Fr u w2 (zba p)/\∃q,q.g=g/\zba q=zba p/\ChL w w2 p q/\LIf (zc4 D) q):=kA (by rw[hP,hge,yG];exact yM);have zK:Hid (∀u n,n=O.length->ChL w u p (P n)->E≠0->Calls prog 132 #[.pointer (some ⟨g,0,none⟩)] u λe w1=>∃a n2 cap,e= .returned (.slice a n2 cap)/\Calls prog 120 #[.pointer (some ⟨g,0,none⟩),.slice a n2 cap] w1 λe w2=>e= .returned (.tuple #[])/\Fr u w2 (zba p)/\∃q,q.g=g/\zba q=zba p/\ChL w w2 p q/\LIf (zc4 D) q):=kA (by rw[hP,hge];exact YV);rw[<-hge,<-Xb,<-yG]at KF;rw[<-hge];have nR:st<=1000000:=by rw[xl,jr];exact hst
 obtain⟨c0,c3,hk⟩:=KF.out;have jj:=kA hk;have hg:g<w.heap.size:=by rw[hge];exact h.cells.2.2.2.2.2
 have nS:O.length<=300:=om;clear Ks yM YV KF hk h hL hD Dq hst jr yv hO hE hge Xb yG xl hP;go_enter func72,ntmps72;go_upto_region 3 with fail
 go_region_held3 (λw'=>w'.cell? ⟨g,0,none⟩=some (.pointer (some ⟨gf,0,none⟩))/\w'.cell? ⟨g,3,none⟩=some (.map (some gm))) (first | exact⟨c0,c3⟩ | exact⟨TW,c31⟩ | exact⟨ZJ,TX⟩ | exact⟨TY,TZ⟩)
  (first
   | (go_at_call 130;refine jj.mono ?_;rintro e w1 ⟨f,rfl,TW,c31,hs⟩;have Tw:=kA hs;clear hs)
   | (go_at_call 123;refine Tw.mono ?_;rintro e w2 ⟨ka,kn,kc,rfl,ZJ,TX,hu⟩;have Tx:=kA hu;clear hu)
   | (go_at_call 129;refine Tx.mono ?_;rintro e w3 ⟨v,rfl,TY,TZ,XK,DN,KO⟩;have cC:=kA XK;have Sb:=kA DN;have Ky:=kA KO;clear XK DN KO))
 obtain⟨a,cap,rfl,-,-⟩:=cC.out;obtain⟨n,hn⟩:∃n,n=O.length:=⟨_,rfl⟩;rw[<-hn]at cC Sb nS ⊢;obtain⟨c4,N1,dT,xX⟩:=js.out w3 a n cap Ky cC hn;have dF:=kA (xX ((st:Int)+(n:Int)) (by rw[Int.natCast_add]));have KH:=kA hn;have hw:IntKind.i64.wrap ((st:Int)+(n:Int))=(st:Int)+(n:Int):=by rw[IntKind.wrap_i64];omega
 clear xX js cC c0 c3 TW c31 ZJ TX TY TZ hg jj Tw Tx hn;go_wp2_with fail;refine dF.mono ?_;rintro e w4 ⟨rfl,Hg,XK⟩;have Hw:=kA Hg;have cC:=kA XK;clear Hg XK dF c4 dT
 by_cases dI:E=0
 ·obtain⟨c3,hg,w5,r5,kE,hq⟩:=Xf.out w4 n KH Hw dI;have HE:Hid (LRes w w5 O (.slice a n cap)/\∃q,q.g=g/\zba q=zba p/\ChL w w5 p q/\LIf (zc4 D) q):=kA ⟨zfD cC D9 kE,hq⟩;subst dI;clear kE hq Xf zK Hw cC;go_wp2_with (at_builtin;refine zmv rfl (.tmp 42) 199 rfl _ rfl (r5 _) ?_);go_ret2;exact⟨_,rfl,HE.1,Sb.out,HE.2⟩
 ·have Hm:=kA (zK w4 n KH Hw dI);clear Xf zK Hw;go_wp2_with fail;refine Hm.mono ?_;rintro e w5 ⟨ka,kn,kc,rfl,hm⟩;have HM:=kA hm;clear hm Hm;go_wp2_with fail;refine HM.mono ?_;rintro e w6 ⟨rfl,kE,hq⟩;have HE:Hid (LRes w w6 O (.slice a n cap)/\∃q,q.g=g/\zba q=zba p/\ChL w w6 p q/\LIf (zc4 D) q):=kA ⟨zfD cC D9 kE,hq⟩;clear kE hq HM cC;go_wp2;go_ret2;exact⟨_,rfl,HE.1,Sb.out,HE.2⟩
end
def zzp(w:World)(g:Nat)(F:Nat->Prop)(D:FD):Prop:=∃p,p.g=g/\LW w p/\LIf D p/\∀b,F b↔zba p b
theorem zvO{p:Wp}(hF:∀b,F b↔zba p b)(h:∃q,q.g=g/\ChL w w' p q/\LIf D q):ChX zzp w w' g F D:=by
 obtain⟨q,hq,hc,hl⟩:=h;exact⟨zba q,⟨q,hq,hc.1,hl,λ_=>Iff.rfl⟩,Fr.of hc.2.1 (λb hb=>(hF b).2 hb),λb hb=>(hc.2.2 b hb).imp_left (λc=>(hF b).2 c)⟩
theorem zzq{p:Wp}(hF:∀b,F b↔zba p b)(h:∃q,q.g=g/\zba q=zba p/\ChL w w' p q/\LIf D q):ChR zzp w w' g F D:=by
 obtain⟨q,hq,hf,hc,hl⟩:=h;exact⟨zba q,⟨q,hq,hc.1,hl,λ_=>Iff.rfl⟩,Fr.of hc.2.1 (λb hb=>(hF b).2 hb),λb hb=>(hF b).2 (hf ▸ hb)⟩
theorem zpg(w:World):Calls prog 67 #[] w λe w'=>∃g F,e= .returned (.pointer (some ⟨g,0,none⟩))/\zzp w' g F FD0/\(∀b,F b->w.heap.size<=b)/\Bw w w':=by
 have X3:= @run_makeMap prog;have yo:=kA (zka w)
 have HE:Hid (∀ (w1:World) gf Ff,LFB w1 gf Ff []->(∀b,Ff b->w.heap.size<=b)->Bw w w1->∃F,zzp ((((w1.alloc (.map #[] 0)).alloc (.map #[] 0)).alloc (.map #[] 0)).alloc (.cells #[.pointer (some ⟨gf,0,none⟩),.map (some w1.heap.size),.map (some (w1.heap.size+1)),.map (some (w1.heap.size+2)),.int .i64 0] 201)) (w1.heap.size+3) F FD0/\(∀b,F b->w.heap.size<=b)/\Bw w ((((w1.alloc (.map #[] 0)).alloc (.map #[] 0)).alloc (.map #[] 0)).alloc (.cells #[.pointer (some ⟨gf,0,none⟩),.map (some w1.heap.size),.map (some (w1.heap.size+1)),.map (some (w1.heap.size+2)),.int .i64 0] 201))):=kA (λw1 gf Ff hf hn hb=>by
  have s1:(w1.alloc (.map #[] 0)).heap.size=w1.heap.size+1:=by simp
  have s2:((w1.alloc (.map #[] 0)).alloc (.map #[] 0)).heap.size=w1.heap.size+2:=by simp
  have s3:(((w1.alloc (.map #[] 0)).alloc (.map #[] 0)).alloc (.map #[] 0)).heap.size=w1.heap.size+3:=by simp
  have b1:Bw w1 (w1.alloc (.map #[] 0)):=zaa _ _;have b2:Below (w1.alloc (.map #[] 0)).heap.size (w1.alloc (.map #[] 0)) ((w1.alloc (.map #[] 0)).alloc (.map #[] 0)):=zaa _ _;have b3:Below ((w1.alloc (.map #[] 0)).alloc (.map #[] 0)).heap.size ((w1.alloc (.map #[] 0)).alloc (.map #[] 0)) (((w1.alloc (.map #[] 0)).alloc (.map #[] 0)).alloc (.map #[] 0)):=zaa _ _;obtain⟨W3,nT⟩:∃W3,W3=((w1.alloc (.map #[] 0)).alloc (.map #[] 0)).alloc (.map #[] 0):=⟨_,rfl⟩;have m1:=((MF.new bK w1).keep b2).keep b3;have m2:=(MF.new sK (w1.alloc (.map #[] 0))).keep b3;have m3:=MF.new xK ((w1.alloc (.map #[] 0)).alloc (.map #[] 0));rw[s1]at m2;rw[s2]at m3;have KO:=zad (zad b1 b2) b3;rw[<-nT]at m1 m2 m3 KO s3 ⊢;have b4:Bw W3 (W3.alloc (.cells #[.pointer (some ⟨gf,0,none⟩),.map (some w1.heap.size),.map (some (w1.heap.size+1)),.map (some (w1.heap.size+2)),.int .i64 0] 201)):=zaa _ _;have k:=Blk.new W3 201 #[.pointer (some ⟨gf,0,none⟩),.map (some w1.heap.size),.map (some (w1.heap.size+1)),.map (some (w1.heap.size+2)),.int .i64 0];rw[s3]at k;have yN:=hf.inb;have Kr:=hb.size;refine⟨zba ⟨w1.heap.size+3,gf,w1.heap.size,w1.heap.size+1,w1.heap.size+2,Ff,[],λ_=>none,λ_=>none,λ_=>none,0⟩,⟨⟨w1.heap.size+3,gf,w1.heap.size,w1.heap.size+1,w1.heap.size+2,Ff,[],λ_=>none,λ_=>none,λ_=>none,0⟩,rfl,⟨k,(hf.keep KO).keep b4,m1.keep b4,m2.keep b4,m3.keep b4,by show w1.heap.size+3≠w1.heap.size;omega,by show w1.heap.size+3≠w1.heap.size+1;omega,by show w1.heap.size+3≠w1.heap.size+2;omega,by show w1.heap.size≠w1.heap.size+1;omega,by show w1.heap.size≠w1.heap.size+2;omega,by show w1.heap.size+1≠w1.heap.size+2;omega,λc=>by have:=yN _ c;have:w1.heap.size+3<w1.heap.size:=this;omega,λc=>by have:w1.heap.size<w1.heap.size:=yN _ c;omega,λc=>by have:w1.heap.size+1<w1.heap.size:=yN _ c;omega,λc=>by have:w1.heap.size+2<w1.heap.size:=yN _ c;omega⟩,LIf.zero rfl rfl rfl rfl rfl,λ_=>Iff.rfl⟩,?_,zad (zad hb KO) b4⟩;rintro b (e | e | e | e | e)
  ·have:b=w1.heap.size+3:=e;omega
  ·have:b=w1.heap.size:=e;omega
  ·have:b=w1.heap.size+1:=e;omega
  ·have:b=w1.heap.size+2:=e;omega
  ·exact hn b e)
 go_enter func67,ntmps67;go_wp2_with fail;refine yo.mono ?_;rintro e w1 ⟨gf,Ff,rfl,h1,h2,h3⟩;have Kz:=kA (HE w1 gf Ff h1 h2 h3);clear h1 h2 h3 HE yo;go_wp2;go_ret;obtain⟨F,k1,k2,k3⟩:=Kz;exact⟨_,F,rfl,k1,k2,k3⟩
theorem fwe_holds:FWE zzp where
 keep_:=by
  rintro w w' g F D ⟨p,h1,h2,h3,h4⟩ he;exact⟨p,h1,h2.same (λb hb=>he b ((h4 b).2 hb)),h3,h4⟩
 inb:=by
  rintro w g F D ⟨p,h1,h2,h3,h4⟩ b hb;exact h2.inb b ((h4 b).1 hb)
 new:=zpg
 put:=by
  rintro w g F D a n cap l hD Dq ⟨p,rfl,h2,h3,h4⟩ hn hr hl;exact (zsD hD h3 h2 hr hl Dq hn).mono λ_ _ q=>⟨q.1,zvO h4 q.2⟩
 drop:=by
  rintro w g F D a n cap xs hD Dq ⟨p,rfl,h2,h3,h4⟩ hn hr ha hx;exact (zpf hD h3 h2 hr (ha.imp id (λc ad e hf=>c ad e ((h4 _).2 hf))) hx hn Dq).mono λ_ _ q=>⟨q.1,zvO h4 q.2⟩
 run:=by
  rintro w g F D hD Dq hst ⟨p,rfl,h2,h3,h4⟩;exact (zsE hD h3 h2 Dq hst).mono λ_ _ ⟨v,q1,q2,_,q3⟩=>⟨v,q1,q2,zzq h4 q3⟩
 state:=by
  rintro w g F D x hD Dq ⟨p,rfl,h2,h3,h4⟩ hx;refine (zmq h2 h3.wf (λy z e=>h3.parR hD e) hx).mono ?_;rintro e w' ⟨Y,rfl,hY,hb⟩;obtain⟨k1,k2⟩:=h3.state hD x;exact⟨Y,by rw[k1],hY.trans k2,hb⟩
open Go
theorem zxW{a b:Bool}(ha:a=true)(hb:b=true):(a && b)=true:=by rw[ha,hb];rfl
end Go.Proofs.YtlibdcmcbinfnaaGreat
namespace Go.Proofs.YtlibdcmcbinfnaaGreat.extractSlots
theorem zzr:joinedFacts Tryz.pinned.checked.prog 5 Tryz.f5 Rows.extractSlotsSpec Rows.extractSlotsRow=true:=by
 unfold joinedFacts
 iterate 31 apply zxW
 all_goals (as_aux_lemma=>kernel_rfl)
end Go.Proofs.YtlibdcmcbinfnaaGreat.extractSlots
