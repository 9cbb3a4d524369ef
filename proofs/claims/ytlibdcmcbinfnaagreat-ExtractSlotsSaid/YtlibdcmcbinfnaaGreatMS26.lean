/- Lemmas. -/
import Derived.Test.YtlibdcmcbinfnaaGreatMS25
set_option maxHeartbeats 100000000
set_option maxRecDepth 1000000
namespace Go.Proofs.YtlibdcmcbinfnaaGreat
open _root_.Go.Proofs.Tryz List Nat
open Go.RowKit
theorem zru(av:Option Addr)(n cap:Nat)(X:List Rc)(w:World)(row:zb4 w av n X)(hn:n<=1000000)(hpos:0<n):
  Calls prog 218 #[.slice av n cap] w λe w'=>e= .returned (.tuple #[.agg (cRc (ze1 X (n - 1))).toArray,.bool true])/\Bw w w':=by
 have K0:=Blk.new w 92 (cRc zRc).toArray;have HM:=kA (zw9 av n cap X (w.alloc (.cells (cRc zRc).toArray 92)) (row.keep (zaa _ _)) hn hpos);obtain⟨y,hy⟩:∃y,y=ze1 X (n - 1):=⟨_,rfl⟩;rw[<-hy]at HM ⊢
 have HF:Hid (∀W,Below (w.alloc (.cells (cRc zRc).toArray 92)).heap.size (w.alloc (.cells (cRc zRc).toArray 92)) W->W.there w.heap.size 0 12/\Blk (W.setCells w.heap.size 0 (cRc y)) w.heap.size 92 (cRc y).toArray/\Bw w (W.setCells w.heap.size 0 (cRc y))):=kA (λW hb=>by
  have k1:=K0.keep hb;have:=zaf (cRc y) (o:=0) k1 (Nat.le_refl 12);rw[zcj]at this
  exact⟨zae k1 (Nat.le_refl 12),this,zab _ (zad (zaa _ _) hb) (Nat.le_refl _)⟩)
 have Hb:=kA (zaN y);have yZ:=kA (zb2 y);obtain⟨XQ,dL⟩:∃XQ,XQ=cRc y:=⟨_,rfl⟩;have vD:Hid (XQ.length=12):=kA (by rw[dL];rfl);rw[<-dL]at HM HF Hb yZ ⊢;have Hh:Hid ((prog.info? 92).map (·.size)=some XQ.toArray.size):=Hb;have n1:((n:Int)==0)=false:=by simp;omega
 clear K0 hy dL row;go_enter func218,ntmps218;go_wp2_with fail;refine HM.mono ?_;rintro e w1 ⟨rfl,hb⟩;have jG:=kA (HF w1 hb);have ki:Hid (w1.there w.heap.size 0 XQ.toArray.size):=kA (by show w1.there w.heap.size 0 XQ.length;rw[vD.out];exact jG.1);clear hb HF HM;go_wp2_with (refine wpList_store_mid rfl 92 (.tmp 2) (.tmp 9) rfl w.heap.size 0 XQ.toArray rfl rfl ki Hh yZ ?_);refine fin (λW=>Blk W w.heap.size 92 XQ.toArray/\Bw w W) jG.2 ?_;rintro W ⟨kr,hbf⟩;have hl:=run_loadVar_mid W w.heap.size 0 92 XQ _ (zac kr) underlying92 rfl Hb
 (try simp only[Act.put,setIfInBounds_toArray,set_cons_zero,set_cons_succ])
 exact bodyPost_ret (v:= .tuple #[.agg XQ.toArray,.bool true]) (zan results218 rfl rfl hl) rfl ⟨rfl,hbf⟩
structure MrgAt (F O Z F' O':List Rc):Prop where
 rz:zdp Z
 rf:zdp F'
 ro:zdp O'
 zf:∀z∈Z,∀x∈F',z.id<x.id
 zo:∀z∈Z,∀x∈O',z.id<x.id
 lk:∀k,(look k Z).or ((look k F').or (look k O'))=(look k F).or (look k O)
variable{F O Z F' O' X:List Rc}{f o x:Rc}{Q:Exit->Go.Act->World->Prop}{w:World}{ops:Array Oper}{op:Oper}{a:Go.Act}
theorem zlY(hF:zdp F)(hO:zdp O):MrgAt F O [] F O:=⟨List.Pairwise.nil,hF,hO,(λz hz=>by cases hz),(λz hz=>by cases hz),λk=>rfl⟩
theorem zhf{r:Rc}(h:zdp Z)(hl:∀z∈Z,z.id<r.id):zdp (Z++[r]):=
 pairwise_append.2 ⟨h,pairwise_singleton _ _,λa ha b hb=>by rw[mem_singleton.1 hb];exact hl a ha⟩
theorem zi0(k:Int)(r:Rc):look k [r]=if r.id=k then some r else none:=by rw[zbk];rfl
theorem MrgAt.old(h:MrgAt F O Z (f::F') (o::O'))(hlt:o.id<f.id):MrgAt F O (Z++[o]) (f::F') O':=by
 obtain⟨f1,f2⟩:=zci.1 h.rf;obtain⟨o1,o2⟩:=zci.1 h.ro;have Zm:∀x∈f::F',o.id<x.id:=λx hx=>by
  rcases mem_cons.1 hx with rfl | hx
  ·exact hlt
  ·have:=f1 x hx;omega
 refine⟨zhf h.rz (λz hz=>h.zo z hz o mem_cons_self),h.rf,o2,λz hz x hx=> ?_,λz hz x hx=> ?_,λk=> ?_⟩
 ·rcases mem_append.1 hz with hz | hz
  ·exact h.zf z hz x hx
  ·rw[mem_singleton.1 hz];exact Zm x hx
 ·rcases mem_append.1 hz with hz | hz
  ·exact h.zo z hz x (mem_cons_of_mem _ hx)
  ·rw[mem_singleton.1 hz];exact o1 x hx
 ·rw[<-h.lk k,zcT,zi0,zbk k o,Option.or_assoc]
  by_cases hk:o.id=k
  ·rw[if_pos hk,if_pos hk,ze0 (k:=k) (L:=f::F') (λx hx=>by have:=Zm x hx;omega)];simp
  ·rw[if_neg hk,if_neg hk,Option.none_or]
theorem MrgAt.fresh(h:MrgAt F O Z (f::F') (o::O'))(hlt:f.id<o.id):MrgAt F O (Z++[f]) F' (o::O'):=by
 obtain⟨f1,f2⟩:=zci.1 h.rf;obtain⟨o1,o2⟩:=zci.1 h.ro;refine⟨zhf h.rz (λz hz=>h.zf z hz f mem_cons_self),f2,h.ro,λz hz x hx=> ?_,λz hz x hx=> ?_,λk=> ?_⟩
 ·rcases mem_append.1 hz with hz | hz
  ·exact h.zf z hz x (mem_cons_of_mem _ hx)
  ·rw[mem_singleton.1 hz];exact f1 x hx
 ·rcases mem_append.1 hz with hz | hz
  ·exact h.zo z hz x hx
  ·rw[mem_singleton.1 hz];rcases mem_cons.1 hx with rfl | hx
   ·exact hlt
   ·have:=o1 x hx;omega
 ·rw[<-h.lk k,zcT,zi0,zbk k f,Option.or_assoc]
  by_cases hk:f.id=k
  ·rw[if_pos hk,if_pos hk];simp
  ·rw[if_neg hk,if_neg hk,Option.none_or]
theorem MrgAt.both(h:MrgAt F O Z (f::F') (o::O'))(he:f.id=o.id):MrgAt F O (Z++[f]) F' O':=by
 obtain⟨f1,f2⟩:=zci.1 h.rf;obtain⟨o1,o2⟩:=zci.1 h.ro;refine⟨zhf h.rz (λz hz=>h.zf z hz f mem_cons_self),f2,o2,λz hz x hx=> ?_,λz hz x hx=> ?_,λk=> ?_⟩
 ·rcases mem_append.1 hz with hz | hz
  ·exact h.zf z hz x (mem_cons_of_mem _ hx)
  ·rw[mem_singleton.1 hz];exact f1 x hx
 ·rcases mem_append.1 hz with hz | hz
  ·exact h.zo z hz x (mem_cons_of_mem _ hx)
  ·rw[mem_singleton.1 hz,he];exact o1 x hx
 ·rw[<-h.lk k,zcT,zi0,zbk k f,zbk k o,Option.or_assoc]
  by_cases hk:f.id=k
  ·rw[if_pos hk,if_pos hk];simp
  ·rw[if_neg hk,if_neg hk,if_neg om,Option.none_or]
theorem MrgAt.last(h:MrgAt F O Z F' O')(he:F'=[]∨O'=[]):zdp (Z++F'++O')/\∀k,look k (Z++F'++O')=(look k F).or (look k O):=by
 refine⟨?_,λk=>by rw[zcT,zcT,Option.or_assoc];exact h.lk k⟩;rcases he with rfl | rfl
 ·rw[append_nil];exact pairwise_append.2 ⟨h.rz,h.ro,h.zo⟩
 ·rw[append_nil];exact pairwise_append.2 ⟨h.rz,h.rf,h.zf⟩
theorem zyO{u2 u3 u4 u5 u6 u7 u8 u9 u10 u11 u12 u13 u14 u15 u16 u17 u18 u19 u20 u21 u22 u23 u24 u25 u26 u27 u28 u29 u30 u31 u32 u33 u34 u35 u36 u37 u38 u39 u40 u41 u42 u43 u44 u45 u46 u47 u48 u49 u50 u51 u52 u53 u54 u55:Value}{bf of nf cf bo oo no co:Nat}{XF XO:List Value} 
  (hQ:∀c a d v w,Q (.panic c) (a.put d v) w->Q (.panic c) a w)
  (hf:0<nf)(ho:0<no)
  (vE:XF.length=12)(vF:XO.length=12)(rk:XF.toArray.all (·.oneCell')=true)(rl:XO.toArray.all (·.oneCell')=true)
  (hS:∀W,Bw w W->W.rangeAt bf of XF/\W.rangeAt bo oo XO)
  (hk:∀W' g6 g7,Blk W' g6 92 XF.toArray->Blk W' g7 92 XO.toArray->g6≠g7->w.heap.size<=g6->w.heap.size<=g7->Bw w W'->Q .normal { tmps:= #[.slice (some ⟨bf,of,none⟩) nf cf,.slice (some ⟨bo,oo,none⟩) no co,u2,u3,u4,u5,.pointer (some ⟨g6,0,none⟩),.pointer (some ⟨g7,0,none⟩),u8,u9,u10,u11,u12,u13,u14,u15,u16,u17,u18,u19,u20,u21,u22,u23,.slice (some ⟨bf,of,none⟩) nf cf,.pointer (some ⟨bf,of,none⟩),.agg XF.toArray,.slice (some ⟨bo,oo,none⟩) no co,.pointer (some ⟨bo,oo,none⟩),.agg XO.toArray,u30,u31,u32,u33,u34,u35,u36,u37,u38,u39,u40,u41,u42,u43,u44,u45,u46,u47,u48,u49,u50,u51,u52,u53,u54,u55],defers:=[] } W'):
  (Code.region 3 #[{ dst := some 24, op := Op.move (Operand.tmp 0), type := 85, pos := "record.go:103", after := #[], guard := none }, { dst := some 25, op := Op.indexAddr 85 (Operand.tmp 24) (Operand.const (Value.int IntKind.i64 0)), type := 0, pos := "record.go:103", after := #[{ on := 0, ground := Ground.data }], guard := none }, { dst := some 26, op := Op.load 92 (Operand.tmp 25), type := 92, pos := "record.go:103", after := #[{ on := 1, ground := Ground.data }], guard := none }, { dst := some 27, op := Op.move (Operand.tmp 1), type := 85, pos := "record.go:103", after := #[{ on := 8, ground := Ground.gcOnly Departure.lateStores }], guard := none }, { dst := some 28, op := Op.indexAddr 85 (Operand.tmp 27) (Operand.const (Value.int IntKind.i64 0)), type := 0, pos := "record.go:103", after := #[{ on := 3, ground := Ground.data }, { on := 8, ground := Ground.gcOnly Departure.lateStores }], guard := none }, { dst := some 29, op := Op.load 92 (Operand.tmp 28), type := 92, pos := "record.go:103", after := #[{ on := 4, ground := Ground.data }, { on := 8, ground := Ground.gcOnly Departure.lateStores }], guard := none }, { dst := some 6, op := Op.alloc 92, type := 0, pos := "record.go:103", after := #[], guard := none }, { dst := some 7, op := Op.alloc 92, type := 0, pos := "record.go:103", after := #[], guard := none }, { dst := none, op := Op.store 92 (Operand.tmp 6) (Operand.tmp 26), type := 0, pos := "record.go:103", after := #[{ on := 6, ground := Ground.data }, { on := 2, ground := Ground.data }, { on := 0, ground := Ground.phase }, { on := 1, ground := Ground.phase }, { on := 2, ground := Ground.phase }, { on := 3, ground := Ground.textOnly Departure.lateStores }, { on := 4, ground := Ground.textOnly Departure.lateStores }, { on := 5, ground := Ground.textOnly Departure.lateStores }, { on := 6, ground := Ground.phase }, { on := 7, ground := Ground.phase }], guard := none }, { dst := none, op := Op.store 92 (Operand.tmp 7) (Operand.tmp 29), type := 0, pos := "record.go:103", after := #[{ on := 7, ground := Ground.data }, { on := 5, ground := Ground.data }, { on := 8, ground := Ground.chain }, { on := 0, ground := Ground.phase }, { on := 1, ground := Ground.phase }, { on := 2, ground := Ground.phase }, { on := 3, ground := Ground.phase }, { on := 4, ground := Ground.phase }, { on := 5, ground := Ground.phase }, { on := 6, ground := Ground.phase }, { on := 7, ground := Ground.phase }, { on := 8, ground := Ground.phase }], guard := none }] true).wp prog Q { tmps := #[.slice (some ⟨bf, of, none⟩) nf cf, .slice (some ⟨bo, oo, none⟩) no co, u2, u3, u4, u5, u6, u7, u8, u9, u10, u11, u12, u13, u14, u15, u16, u17, u18, u19, u20, u21, u22, u23, u24, u25, u26, u27, u28, u29, u30, u31, u32, u33, u34, u35, u36, u37, u38, u39, u40, u41, u42, u43, u44, u45, u46, u47, u48, u49, u50, u51, u52, u53, u54, u55], defers := [] } w := by
 have HK:=kA hk;have HS:=kA hS;have jT:Hid ((prog.info? 92).map (·.size)=some XF.length):=kA (by rw[vE];kernel_rfl);have dx:Hid ((prog.info? 92).map (·.size)=some XO.length):=kA (by rw[vF];kernel_rfl);have qv:Hid ((prog.info? 92).map (·.size)=some XF.toArray.size):=jT;have qw:Hid ((prog.info? 92).map (·.size)=some XO.toArray.size):=dx;have CQ:=kA rk;have Zc:=kA rl;have Ya:=kA vE;have Cd:=kA vF;clear hk hS vE vF rk rl;refine wp_region_held_drew (S:=λw'=>w'.rangeAt bf of XF/\w'.rangeAt bo oo XO) oM (HS _ (zaH (Below.refl _ _))) (λhHeld=> ?_);refine tk 0 hHeld ?_ (hQ:=λc a w h=>hQ c a _ _ w h);refine tk 1 hHeld ?_ (hQ:=λc a w h=>hQ c a _ _ w h);refine wpAnyH_take (i:=2) (v:=_) rfl oM oM oM (λc a w h=>hQ c a _ _ w h) (yieldsIf_load_mid (by rfl) _ _ rfl _ _ rfl _ _ (λ_ h=>h.1) underlying92 rfl jT) hHeld ?_;simp only[Act.put,getElem_toArray,getElem_cons_zero,getElem_cons_succ,setIfInBounds_toArray,set_cons_zero,set_cons_succ];refine tk 3 hHeld ?_ (hQ:=λc a w h=>hQ c a _ _ w h);refine tk 4 hHeld ?_ (hQ:=λc a w h=>hQ c a _ _ w h);refine wpAnyH_take (i:=5) (v:=_) rfl oM oM oM (λc a w h=>hQ c a _ _ w h) (yieldsIf_load_mid (by rfl) _ _ rfl _ _ rfl _ _ (λ_ h=>h.2) underlying92 rfl dx) hHeld ?_;simp only[Act.put,getElem_toArray,getElem_cons_zero,getElem_cons_succ,setIfInBounds_toArray,set_cons_zero,set_cons_succ];refine fin (λW=>Bw w W) (zaH (Below.refl _ _)) ?_;clear hHeld;rintro W hb;have HB:=kA hb;clear hb;refine wpAnyH_ready (rs:=[6,7]) oM (by simp) ?_;refine AllReadyH.cons rfl (λK hK=> ?_) (AllReadyH.cons rfl (λK hK=> ?_) AllReadyH.nil)
 ·go_simp;refine hK.out _ _ (HS _ (zag HB _)) (λhHeld=> ?_);clear hK K;refine fin (λW2=>W.heap.size<W2.heap.size/\Blk W2 W.heap.size 92 (cRc zRc).toArray/\Bw w W2) ⟨by simp,Blk.new _ _ _,zag HB _⟩ ?_;clear hHeld;rintro W2 ⟨hlt,ka,hb⟩;have KA:=kA ka;have He:=kA hb;clear ka hb;refine rd 7 (λK hK=> ?_);go_simp;refine hK.out _ _ (HS _ (zag He _)) (λhHeld=> ?_);clear hK K;refine fin (λW3=>Blk W3 W.heap.size 92 (cRc zRc).toArray/\Blk W3 W2.heap.size 92 (cRc zRc).toArray/\Bw w W3) ⟨KA.alloc _,Blk.new _ _ _,zag He _⟩ ?_;clear hHeld KA;have Cz:=HB.size;have xv:=He.size;obtain⟨ga,qy⟩:∃ga,ga=W.heap.size:=⟨_,rfl⟩;obtain⟨gb,CR⟩:∃gb,gb=W2.heap.size:=⟨_,rfl⟩;rw[<-qy]at hlt Cz ⊢;rw[<-CR]at hlt xv ⊢;clear qy CR HB He;rintro W3 ⟨ka,kb,hb⟩;have KA:=kA ka;have KB:=kA kb;have Ky:=kA hb;clear ka kb hb;refine rd 8 (λK hK=> ?_);rw[if_pos (by rfl)];refine wp_store_mid 92 (.tmp 6) (.tmp 26) rfl ga 0 XF.toArray rfl rfl (zae KA (by show 0+XF.length<=12;rw[Ya.out];exact Nat.le_refl 12)) qv CQ ?_;have h1:Blk (W3.setCells ga 0 XF) ga 92 XF.toArray:=by
   have:=zaf XF (o:=0) KA (by rw[Ya.out];exact Nat.le_refl 12);rw[zao (by rw[Ya.out];rfl)]at this;exact this
  have h2:Blk (W3.setCells ga 0 XF) gb 92 (cRc zRc).toArray:=zat XF KB om;have h3:Bw w (W3.setCells ga 0 XF):=zab XF Ky om;refine hK.out _ _ (HS _ h3) (λhHeld=> ?_);clear hK K;refine fin (λW4=>Blk W4 ga 92 XF.toArray/\Blk W4 gb 92 (cRc zRc).toArray/\Bw w W4) ⟨h1,h2,h3⟩ ?_;clear hHeld KA KB Ky h1 h2 h3;rintro W4 ⟨k6,k7,hb⟩;have K6:=kA k6;have K7:=kA k7;have kP:=kA hb;clear k6 k7 hb;refine rd 9 (λK hK=> ?_);rw[if_pos (by rfl)];refine wp_store_mid 92 (.tmp 7) (.tmp 29) rfl gb 0 XO.toArray rfl rfl (zae K7 (by show 0+XO.length<=12;rw[Cd.out];exact Nat.le_refl 12)) qw Zc ?_;have h1:Blk (W4.setCells gb 0 XO) gb 92 XO.toArray:=by
   have:=zaf XO (o:=0) K7 (by rw[Cd.out];exact Nat.le_refl 12);rw[zao (by rw[Cd.out];rfl)]at this;exact this
  have h2:Blk (W4.setCells gb 0 XO) ga 92 XF.toArray:=zat XO K6 om;have h3:Bw w (W4.setCells gb 0 XO):=zab XO kP om;refine hK.out _ _ (HS _ h3) (λhHeld=> ?_);clear hK K;refine wpAnyH_done oM ?_ _;exact HK _ ga gb h2 h1 om om om h3
 ·go_simp;refine hK.out _ _ (HS _ (zag HB _)) (λhHeld=> ?_);clear hK K;refine fin (λW2=>W.heap.size<W2.heap.size/\Blk W2 W.heap.size 92 (cRc zRc).toArray/\Bw w W2) ⟨by simp,Blk.new _ _ _,zag HB _⟩ ?_;clear hHeld;rintro W2 ⟨hlt,ka,hb⟩;have KA:=kA ka;have He:=kA hb;clear ka hb;refine rd 6 (λK hK=> ?_);go_simp;refine hK.out _ _ (HS _ (zag He _)) (λhHeld=> ?_);clear hK K;refine fin (λW3=>Blk W3 W.heap.size 92 (cRc zRc).toArray/\Blk W3 W2.heap.size 92 (cRc zRc).toArray/\Bw w W3) ⟨KA.alloc _,Blk.new _ _ _,zag He _⟩ ?_;clear hHeld KA;have Cz:=HB.size;have xv:=He.size;obtain⟨ga,qy⟩:∃ga,ga=W.heap.size:=⟨_,rfl⟩;obtain⟨gb,CR⟩:∃gb,gb=W2.heap.size:=⟨_,rfl⟩;rw[<-qy]at hlt Cz ⊢;rw[<-CR]at hlt xv ⊢;clear qy CR HB He;rintro W3 ⟨ka,kb,hb⟩;have KA:=kA ka;have KB:=kA kb;have Ky:=kA hb;clear ka kb hb;refine rd 8 (λK hK=> ?_);rw[if_pos (by rfl)];refine wp_store_mid 92 (.tmp 6) (.tmp 26) rfl gb 0 XF.toArray rfl rfl (zae KB (by show 0+XF.length<=12;rw[Ya.out];exact Nat.le_refl 12)) qv CQ ?_;have h1:Blk (W3.setCells gb 0 XF) gb 92 XF.toArray:=by
   have:=zaf XF (o:=0) KB (by rw[Ya.out];exact Nat.le_refl 12);rw[zao (by rw[Ya.out];rfl)]at this;exact this
  have h2:Blk (W3.setCells gb 0 XF) ga 92 (cRc zRc).toArray:=zat XF KA om;have h3:Bw w (W3.setCells gb 0 XF):=zab XF Ky om;refine hK.out _ _ (HS _ h3) (λhHeld=> ?_);clear hK K;refine fin (λW4=>Blk W4 gb 92 XF.toArray/\Blk W4 ga 92 (cRc zRc).toArray/\Bw w W4) ⟨h1,h2,h3⟩ ?_;clear hHeld KA KB Ky h1 h2 h3;rintro W4 ⟨k6,k7,hb⟩;have K6:=kA k6;have K7:=kA k7;have kP:=kA hb;clear k6 k7 hb;refine rd 9 (λK hK=> ?_);rw[if_pos (by rfl)];refine wp_store_mid 92 (.tmp 7) (.tmp 29) rfl ga 0 XO.toArray rfl rfl (zae K7 (by show 0+XO.length<=12;rw[Cd.out];exact Nat.le_refl 12)) qw Zc ?_;have h1:Blk (W4.setCells ga 0 XO) ga 92 XO.toArray:=by
   have:=zaf XO (o:=0) K7 (by rw[Cd.out];exact Nat.le_refl 12);rw[zao (by rw[Cd.out];rfl)]at this;exact this
  have h2:Blk (W4.setCells ga 0 XO) gb 92 XF.toArray:=zat XO K6 om;have h3:Bw w (W4.setCells ga 0 XO):=zab XO kP om;refine hK.out _ _ (HS _ h3) (λhHeld=> ?_);clear hK K;refine wpAnyH_done oM ?_ _;exact HK _ gb ga h2 h1 om om om h3
def zhD:Value->Nat
 | .slice _ n _=>n
 | _=>0
theorem zrv(x:Rc)(W:World):(Instr.buildSlice 85 1 #[(0,.agg (cRc x).toArray)]).run prog W= .ok (.slice (some ⟨W.heap.size,0,none⟩) 1 1) (W.alloc (.cells (cRc x).toArray 92)):=oM
theorem zyP(x y:Rc)(W:World):(Instr.buildSlice 85 2 #[(0,.agg (cRc x).toArray),(1,.agg (cRc y).toArray)]).run prog W= .ok (.slice (some ⟨W.heap.size,0,none⟩) 2 2) (W.alloc (.cells (cRc x++cRc y).toArray 92)):=oM
theorem zet{rest:List Oper}(kX:op.guard=none)(t e:TypeId)(x:Operand)(ho:op.op= .buildSlice t 1 #[(0,x)])(X:List Value)(hx:a.eval x= .agg X.toArray)
  (Hi:∀W,(Instr.buildSlice t 1 #[(0,.agg X.toArray)]).run prog W= .ok (.slice (some ⟨W.heap.size,0,none⟩) 1 1) (W.alloc (.cells X.toArray e)))
  (h:wpList prog ops Q rest (a.put op.dst (.slice (some ⟨w.heap.size,0,none⟩) 1 1)) (w.alloc (.cells X.toArray e))):wpList prog ops Q (op::rest) a w:=by
 refine wpList_plain kX λK hK=> ?_;unfold Oper.wp execOp;simp only[ho];simp[hx,Hi];exact hK _ _ h
theorem zlZ{rest:List Oper}(kX:op.guard=none)(t e:TypeId)(x y:Operand)(ho:op.op= .buildSlice t 2 #[(0,x),(1,y)])(X Y:List Value)(hx:a.eval x= .agg X.toArray)(hy:a.eval y= .agg Y.toArray)
  (Hi:∀W,(Instr.buildSlice t 2 #[(0,.agg X.toArray),(1,.agg Y.toArray)]).run prog W= .ok (.slice (some ⟨W.heap.size,0,none⟩) 2 2) (W.alloc (.cells (X++Y).toArray e)))
  (h:wpList prog ops Q rest (a.put op.dst (.slice (some ⟨w.heap.size,0,none⟩) 2 2)) (w.alloc (.cells (X++Y).toArray e))):wpList prog ops Q (op::rest) a w:=by
 refine wpList_plain kX λK hK=> ?_;unfold Oper.wp execOp;simp only[ho];simp[hx,hy,Hi];exact hK _ _ h
theorem zxa{W:World}{g:Nat}{y:Rc}(k:Blk W g 92 (cRc x++cRc y).toArray):zb4 W (some ⟨g,0,none⟩) 2 [x,y]:=
 ⟨rfl,om,.inr ⟨g,0,rfl,k.lt,λi z hz=>by
  match i,hz with
  | 0,hz=>
   injection hz with hz;subst hz;have:=zaF k 0 12;exact this
  | 1,hz=>
   injection hz with hz;subst hz;have:=zaF k 12 12
   exact this⟩⟩
theorem zge{b off n c:Nat}(h:zb4 w (some ⟨b,off,none⟩) n (x::X))(hc:n<=c):zb4 w (if c=1 then some ⟨b,off,none⟩ else some ⟨b,off+12,none⟩) (n - 1) X:=by
 have hl:X.length=n - 1:=by have:=h.1;simp at this;omega
 refine⟨hl,by have:=h.2.1;omega,?_⟩
 by_cases c1:c=1
 ·left
  have:=h.1;simp at this;omega
 ·rw[if_neg c1];rcases h.2.2 with h0 | ⟨b',cN,e,hb,hr⟩
  ·have:=h.1;simp at this;omega
  ·injection e with e;injection e with e1 e2;subst e1 e2;refine .inr ⟨b,off+12,rfl,hb,λi z hz=> ?_⟩;have:=hr (i+1) z (by simpa using hz);rw[Nat.add_mul,Nat.one_mul]at this;rw[show off+12+i*12=off+(i*12+12) by omega];exact this
theorem zxb(aF:Option Addr)(nF cF:Nat)(F:List Rc)(aO:Option Addr)(nO cO:Nat)(O:List Rc)(w:World)(rF:zb4 w aF nF F)(rO:zb4 w aO nO O)(bG:nF<=cF)(rp:cF<=maxLen)(bH:nO<=cO)(rq:cO<=maxLen)(hF:zdp F)(hO:zdp O)(hn:nF+nO<=2000):
  Calls prog 139 #[.slice aF nF cF,.slice aO nO cO] w λe w'=>∃v X,e= .returned v/\OwnX 12 cRc 92 w' w.heap.size v X/\X.length<=nF+nO/\zdp X/\(∀k,look k X=(look k F).or (look k O))/\Bw w w':=by
 obtain⟨i0,kB,kQ,kR,kH⟩:=info_parts zcA;obtain⟨wm,qz,ru,yg⟩:=run_make_own (P:=prog) (w:=w) w.heap.size 85 92 i0 _ 12 underlying85 kB kQ kR .i64 .i64 (nF+nO) (by rw[kH];omega) (by unfold maxLen;omega) (Nat.le_refl _);rw[show (((nF+nO:Nat)):Int)=(nF:Int)+(nO:Int) by omega]at qz;unfold maxLen at rp rq;have ry:Hid (OwnX 12 cRc 92 wm w.heap.size (.slice (some ⟨w.heap.size,0,none⟩) 0 (nF+nO)) ([]:List Rc)):=kA ru;have Df:Hid (Bw w wm):=kA ⟨yg.os,yg.tape,yg.output,yg.size,λq hq=>yg.block q hq (by simp)⟩;have H0:=kA (And.intro rF (And.intro rO (zlY hF hO)));clear kB kQ kR kH ru yg rF rO hF hO i0;go_enter func139,ntmps139;go_wp2
 go_loopw [0,1,5,6,7,8,9] (λv0 v1 v5 _ _ _ _ wr=>∃ (a1:Option Addr) (n1 c1:Nat) (F':List Rc) (a2:Option Addr) (n2 c2:Nat) (O' Z:List Rc),v0= .slice a1 n1 c1/\v1= .slice a2 n2 c2/\zb4 w a1 n1 F'/\zb4 w a2 n2 O'/\n1<=c1/\c1<=9223372036854775807/\n2<=c2/\c2<=9223372036854775807/\Z.length+n1+n2<=nF+nO/\OwnX 12 cRc 92 wr w.heap.size v5 Z/\MrgAt F O Z F' O'/\Bw w wr) (λv0 v1 _ _ _ _ _ _=>zhD v0+zhD v1)
 case atStart=>exact⟨aF,nF,cF,F,aO,nO,cO,O,[],rfl,rfl,H0.1,H0.2.1,bG,rp,bH,rq,by simp,ry.out,H0.2.2,Df⟩
 case round=>
  clear H0 ry Df qz;obtain⟨a1,n1,c1,F',a2,n2,c2,O',Z,rfl,rfl,r1,r2,Dd,Xg,di,Ct,hl,ho,hm,hb⟩:=hrel;have dP:=kA r1;have H7:=kA r2;have Xn:=kA ho;have HM:=kA hm;have HB:=kA hb;clear r1 r2 ho hm hb;have qA:Hid (w.heap.size<=wr.heap.size):=kA HB.size
  have kT:Hid ((n1=0∨n2=0)->∀v' X w',X=Z++F'++O'->OwnX 12 cRc 92 w' w.heap.size v' X->Bw w w'->∃v X,Ending.returned v'=Ending.returned v/\OwnX 12 cRc 92 w' w.heap.size v X/\X.length<=nF+nO/\zdp X/\(∀k,look k X=(look k F).or (look k O))/\Bw w w'):=kA (λh0 v' X w' e ho hb=>by
   have h1:F'=[]∨O'=[]:=h0.imp (λq=>eq_nil_of_length_eq_zero (dP.1.trans q)) (λq=>eq_nil_of_length_eq_zero (H7.1.trans q));obtain⟨l1,l2⟩:=HM.last h1;rw[<-e]at l1 l2
   exact⟨v',X,rfl,ho,by rw[e,length_append,length_append,dP.1,H7.1];omega,l1,l2,hb⟩)
  by_cases h1:0<n1
  ·by_cases h2:0<n2
   ·obtain⟨bf,of,f,rfl,hbf,Yb,Zd⟩:=dP.at_ h1;obtain⟨bo,oo,o,rfl,rA,jU,Xo⟩:=H7.at_ h2;obtain⟨F2,X6⟩:∃F2,F'=f::F2:=by
     cases F' with
     | nil=>simp at Yb
     | cons a b=>simp at Yb;exact⟨b,by rw[Yb]⟩
    obtain⟨O2,bI⟩:∃O2,O'=o::O2:=by
     cases O' with
     | nil=>simp at jU
     | cons a b=>simp at jU;exact⟨b,by rw[jU]⟩
    subst X6 bI;rw[Nat.zero_mul,Nat.add_zero]at Zd Xo;have HS:Hid (∀W,Bw wr W->W.rangeAt bf of (cRc f)/\W.rangeAt bo oo (cRc o)):=kA (λW hb=>⟨zaP Zd ((zad HB hb).block bf hbf),zaP Xo ((zad HB hb).block bo rA)⟩);obtain⟨r,hr⟩:∃r,r=ze1 [f,o] 1:=⟨_,rfl⟩;have Xr:(o.id<f.id/\r=o)∨(¬o.id<f.id/\r=f):=by
     by_cases c:o.id<f.id
     ·exact .inl ⟨c,by rw[hr];exact zkr (X:=[f,o]) (k:=0) (x:=o) rfl c⟩
     ·exact .inr ⟨c,by rw[hr];exact zks (X:=[f,o]) (k:=0) (x:=o) rfl c⟩
    have Xs:Hid ((zpl r f=true/\(r.id==o.id)=true/\MrgAt F O (Z++[r]) F2 O2)∨(zpl r f=true/\(r.id==o.id)=false/\MrgAt F O (Z++[r]) F2 (o::O2))∨(zpl r f=false/\(r.id==o.id)=true/\MrgAt F O (Z++[r]) (f::F2) O2)):=kA (by
     rcases Xr with ⟨c,e⟩ | ⟨c,e⟩
     ·rw[e];exact .inr (.inr ⟨zw7 (λq=>by rw[q]at c;omega),by simp,HM.old c⟩)
     ·rw[e]
      by_cases c2:f.id=o.id
      ·exact .inl ⟨zkp f,by simpa using c2,HM.both c2⟩
      ·exact .inr (.inl ⟨zkp f,by simpa using c2,HM.fresh om⟩))
    have Ch:Hid (∀h W,Blk W h 92 (cRc f++cRc o).toArray->Calls prog 218 #[.slice (some ⟨h,0,none⟩) 2 2] W λe w'=>e= .returned (.tuple #[.agg (cRc r).toArray,.bool true])/\Bw W w'):=kA (λh W k=>by
     rw[hr]
     exact zru (some ⟨h,0,none⟩) 2 2 [f,o] W (zxa k) om om)
    have DD:Hid (∀W,Calls prog 219 #[.agg (cRc r).toArray,.agg (cRc o).toArray] W λe w'=>e= .returned (.bool (r.id==o.id))/\Bw W w'):=kA (λW=>zdX r o W);have HEq:Hid (∀w,(Op.equalIn 10000 92 (.agg (cRc r).toArray) (.agg (cRc f).toArray)).run prog w= .ok (zpl r f) w):=kA (λw=>zAb r f w);have yh:Hid (∀W,(Instr.buildSlice 85 2 #[(0,.agg (cRc f).toArray),(1,.agg (cRc o).toArray)]).run prog W= .ok (.slice (some ⟨W.heap.size,0,none⟩) 2 2) (W.alloc (.cells (cRc f++cRc o).toArray 92))):=kA (zyP f o);have xG:Hid (∀W,(Instr.buildSlice 85 1 #[(0,.agg (cRc r).toArray)]).run prog W= .ok (.slice (some ⟨W.heap.size,0,none⟩) 1 1) (W.alloc (.cells (cRc r).toArray 92))):=kA (zrv r);have Hb:Hid (((prog.info? 92).map (·.size)=some (cRc f).length)/\((prog.info? 92).map (·.size)=some (cRc o).length)/\((prog.info? 92).map (·.size)=some (cRc r).length)):=kA ⟨zaN f,zaN o,zaN r⟩;have qB:Hid (c1=1->zb4 w (some ⟨bf,of,none⟩) 0 F2):=kA (λd=>by have q:=zge dP Dd;rw[if_pos d,show n1 - 1=0 by omega]at q;exact q);have qC:Hid (¬c1=1->zb4 w (some ⟨bf,of+12,none⟩) (n1 - 1) F2):=kA (λd=>by have q:=zge dP Dd;rw[if_neg d]at q;exact q);have YJ:Hid (c2=1->zb4 w (some ⟨bo,oo,none⟩) 0 O2):=kA (λd=>by have q:=zge H7 di;rw[if_pos d,show n2 - 1=0 by omega]at q;exact q);have YK:Hid (¬c2=1->zb4 w (some ⟨bo,oo+12,none⟩) (n2 - 1) O2):=kA (λd=>by have q:=zge H7 di;rw[if_neg d]at q;exact q);obtain⟨XF,YL⟩:∃XF,XF=cRc f:=⟨_,rfl⟩;obtain⟨XO,vG⟩:∃XO,XO=cRc o:=⟨_,rfl⟩;obtain⟨XR,Xt⟩:∃XR,XR=cRc r:=⟨_,rfl⟩;have kG:Hid (XF.length=12/\XO.length=12/\XR.length=12/\XF.toArray.all (·.oneCell')=true/\XO.toArray.all (·.oneCell')=true/\XR.toArray.all (·.oneCell')=true):=kA (by rw[YL,vG,Xt];exact⟨rfl,rfl,rfl,zb2 _,zb2 _,zb2 _⟩);have bJ:=kA Xt;rw[<-YL]at HS Ch HEq yh Hb;rw[<-vG]at HS Ch DD yh Hb;rw[<-Xt]at Ch DD HEq xG Hb;obtain⟨er,qD⟩:∃er,er=zpl r f:=⟨_,rfl⟩;obtain⟨sm,rB⟩:∃sm,sm=(r.id==o.id):=⟨_,rfl⟩;rw[<-qD]at Xs HEq;rw[<-rB]at Xs DD;have l1:(1:Int)<=(n1:Int):=om;have l2:(1:Int)<=(n2:Int):=om;have mr:1<=n1:=h1;have my:1<=n2:=h2;clear YL vG Xt qD rB Zd Xo hr Xr Yb jU hbf rA HM;go_upto_region 3 with fail;refine zyO (bf:=bf) (of:=of) (bo:=bo) (oo:=oo) (XF:=XF) (XO:=XO) (λ_ _ d _ _ h=>by cases d <;> exact h) h1 h2 kG.1 kG.2.1 kG.2.2.2.1 kG.2.2.2.2.1 HS ?_
    intro W g6 g7 k6 k7 Ny l6 l7 hb;have K6:=kA k6;have K7:=kA k7;have qE:=kA (zad HB hb);have rC:=kA (Xn.keep hb);have vH:Hid (∀b,u5.ownBlock=some b->w.heap.size<=b/\b<wr.heap.size):=kA Xn.lt;have rD:wr.heap.size<=W.heap.size:=hb.size;clear k6 k7 hb HS Xn HB
    go_wp2_with (first
     | refine wpList_load_mid rfl 92 (.tmp 6) rfl g6 0 rfl XF _ (zac K6) underlying92 rfl Hb.1 ?_
     | refine wpList_load_mid rfl 92 (.tmp 7) rfl g7 0 rfl XO _ (zac K7) underlying92 rfl Hb.2.1 ?_
     | refine zlZ rfl 85 92 (.tmp 31) (.tmp 32) rfl XF XO rfl rfl yh ?_)
    refine (Ch W.heap.size _ (Blk.new W _ _)).mono ?_;rintro e w3 ⟨rfl,hb⟩;have Hf:Bw W w3:=zad (zaa _ _) hb;have qF:Hid (Blk w3 g6 92 XF.toArray/\Blk w3 g7 92 XO.toArray/\OwnX 12 cRc 92 w3 w.heap.size u5 Z/\Bw w w3):=kA ⟨K6.keep Hf,K7.keep Hf,rC.keep Hf,zad qE Hf⟩;have vI:wr.heap.size<=w3.heap.size:=Nat.le_trans rD Hf.size;clear hb Hf K6 K7 rC qE Ch yh rD;have KN:=Blk.new w3 92 (cRc zRc).toArray;have ki:Hid ((w3.alloc (.cells (cRc zRc).toArray 92)).there w3.heap.size 0 XR.toArray.size):=kA (zae KN (by show 0+XR.length<=12;rw[kG.2.2.1];exact Nat.le_refl 12));have Hh:Hid ((prog.info? 92).map (·.size)=some XR.toArray.size):=kA Hb.2.2
    have rE:Hid (Blk ((w3.alloc (.cells (cRc zRc).toArray 92)).setCells w3.heap.size 0 XR) g6 92 XF.toArray/\Blk ((w3.alloc (.cells (cRc zRc).toArray 92)).setCells w3.heap.size 0 XR) g7 92 XO.toArray/\Blk ((w3.alloc (.cells (cRc zRc).toArray 92)).setCells w3.heap.size 0 XR) w3.heap.size 92 XR.toArray/\OwnX 12 cRc 92 ((w3.alloc (.cells (cRc zRc).toArray 92)).setCells w3.heap.size 0 XR) w.heap.size u5 Z/\Bw w ((w3.alloc (.cells (cRc zRc).toArray 92)).setCells w3.heap.size 0 XR)):=kA (by
     obtain⟨q1,q2,q3,q4⟩:=qF;have db:Bw w3 ((w3.alloc (.cells (cRc zRc).toArray 92)).setCells w3.heap.size 0 XR):=zab XR (zaa _ _) (Nat.le_refl _);refine⟨q1.keep db,q2.keep db,?_,q3.keep db,zad q4 db⟩;have:=zaf XR (o:=0) KN (by rw[kG.2.2.1];exact Nat.le_refl 12);rw[zao (by rw[kG.2.2.1];rfl)]at this
     exact this)
    clear KN;go_upto_region 5 with (refine wpList_store_mid rfl 92 (.tmp 8) (.tmp 35) rfl w3.heap.size 0 XR.toArray rfl rfl ki Hh kG.2.2.2.2.2 ?_);refine fin (λW=>Blk W g6 92 XF.toArray/\Blk W g7 92 XO.toArray/\Blk W w3.heap.size 92 XR.toArray/\OwnX 12 cRc 92 W w.heap.size u5 Z/\Bw w W) rE ?_;obtain⟨g8,Xu⟩:∃g8,g8=w3.heap.size:=⟨_,rfl⟩;rw[<-Xu]at vI ⊢;clear rE ki qF Xu;rintro W4 ⟨k6,k7,k8,ho,hb⟩;have K6:=kA k6;have K7:=kA k7;have K8:=kA k8;have vJ:=kA ho;have kP:=kA hb;clear k6 k7 k8 ho hb;have bL:Z.length<=2000:=om;have bM:Hid (w.heap.size<=W4.heap.size):=kA kP.size
    go_wp2_with (first
     | refine wpList_load_mid rfl 92 (.tmp 8) rfl g8 0 rfl XR _ (zac K8) underlying92 rfl Hb.2.2 ?_
     | refine zet rfl 85 92 (.tmp 38) rfl XR rfl xG ?_
     | (at_builtin;refine zbu rfl (.tmp 37) (.tmp 39) 85 96 (.agg (cRc zRc).toArray) rfl underlying85 zcA rfl (by decide) (by decide) zaC r (zcZ r) rfl (vJ.keep (zaa _ _)) W4.heap.size 1 rfl (by rw[<-bJ.out];exact zac (Blk.new W4 _ _)) bL (Nat.le_trans bM (by simp)) ?_))
    intro v' W5 k1 k2 k3
    have kC:Hid (Blk W5 g6 92 XF.toArray/\Blk W5 g7 92 XO.toArray/\Blk W5 g8 92 XR.toArray/\OwnX 12 cRc 92 W5 w.heap.size v' (Z++[r])/\Bw w W5):=kA (by
     have Hf:Bw W4 (W4.alloc (.cells XR.toArray 92)):=zaa _ _;have q6:=K6.keep Hf;have q7:=K7.keep Hf;have q8:=K8.keep Hf;refine⟨q6.same (k2.block _ q6.lt (λe=> ?_)),q7.same (k2.block _ q7.lt (λe=> ?_)),q8.same (k2.block _ q8.lt (λe=> ?_)),k1,zaO (zad kP Hf) k2 (λb e=>(vJ.lt b e).1)⟩
     ·have:=(vH _ e.symm).2;omega
     ·have:=(vH _ e.symm).2;omega
     ·have:=(vH _ e.symm).2;omega)
    clear k1 k2 k3 K6 K7 K8 vJ kP;have heq:=HEq.out;have rG:(Z++[r]).length=Z.length+1:=by rw[length_append];rfl
    rcases Xs.out with ⟨e1,e2,hM⟩ | ⟨e1,e2,hM⟩ | ⟨e1,e2,hM⟩
    ·have De:=kA hM;rw[e1]at heq;rw[e2]at DD;clear hM Xs e1 e2 HEq
     by_cases d1:c1=1
     ·have qG:=kA (qB d1);subst d1
      by_cases d2:c2=1
      ·have Xv:=kA (YJ d2);subst d2
       go_wp2_with (first
        | refine wpList_load_mid rfl 92 (.tmp 8) rfl g8 0 rfl XR _ (zac kC.2.2.1) underlying92 rfl Hb.2.2 ?_
        | refine wpList_load_mid rfl 92 (.tmp 6) rfl g6 0 rfl XF _ (zac kC.1) underlying92 rfl Hb.1 ?_
        | refine wpList_load_mid rfl 92 (.tmp 7) rfl g7 0 rfl XO _ (zac kC.2.1) underlying92 rfl Hb.2.1 ?_)
       refine (DD _).mono ?_;rintro e w6 ⟨rfl,hb⟩;have Dl:=kA (kC.2.2.2.1.keep hb);have dU:=kA (zad kC.2.2.2.2 hb);clear hb kC;go_wp2;go_roundw
       case rel=>exact⟨_,_,_,F2,_,_,_,O2,Z++[r],rfl,rfl,qG.out,Xv.out,om,om,om,om,om,Dl.out,De.out,dU⟩
       case measure=>simp[zhD] <;> omega
      ·have Xv:=kA (YK d2)
       skip
       go_wp2_with (first
        | refine wpList_load_mid rfl 92 (.tmp 8) rfl g8 0 rfl XR _ (zac kC.2.2.1) underlying92 rfl Hb.2.2 ?_
        | refine wpList_load_mid rfl 92 (.tmp 6) rfl g6 0 rfl XF _ (zac kC.1) underlying92 rfl Hb.1 ?_
        | refine wpList_load_mid rfl 92 (.tmp 7) rfl g7 0 rfl XO _ (zac kC.2.1) underlying92 rfl Hb.2.1 ?_)
       refine (DD _).mono ?_;rintro e w6 ⟨rfl,hb⟩;have Dl:=kA (kC.2.2.2.1.keep hb);have dU:=kA (zad kC.2.2.2.2 hb);clear hb kC;go_wp2;go_roundw
       case rel=>exact⟨_,_,_,F2,_,_,_,O2,Z++[r],rfl,rfl,qG.out,Xv.out,om,om,om,om,om,Dl.out,De.out,dU⟩
       case measure=>simp[zhD] <;> omega
     ·have qG:=kA (qC d1)
      skip
      by_cases d2:c2=1
      ·have Xv:=kA (YJ d2);subst d2
       go_wp2_with (first
        | refine wpList_load_mid rfl 92 (.tmp 8) rfl g8 0 rfl XR _ (zac kC.2.2.1) underlying92 rfl Hb.2.2 ?_
        | refine wpList_load_mid rfl 92 (.tmp 6) rfl g6 0 rfl XF _ (zac kC.1) underlying92 rfl Hb.1 ?_
        | refine wpList_load_mid rfl 92 (.tmp 7) rfl g7 0 rfl XO _ (zac kC.2.1) underlying92 rfl Hb.2.1 ?_)
       refine (DD _).mono ?_;rintro e w6 ⟨rfl,hb⟩;have Dl:=kA (kC.2.2.2.1.keep hb);have dU:=kA (zad kC.2.2.2.2 hb);clear hb kC;go_wp2;go_roundw
       case rel=>exact⟨_,_,_,F2,_,_,_,O2,Z++[r],rfl,rfl,qG.out,Xv.out,om,om,om,om,om,Dl.out,De.out,dU⟩
       case measure=>simp[zhD] <;> omega
      ·have Xv:=kA (YK d2)
       skip
       go_wp2_with (first
        | refine wpList_load_mid rfl 92 (.tmp 8) rfl g8 0 rfl XR _ (zac kC.2.2.1) underlying92 rfl Hb.2.2 ?_
        | refine wpList_load_mid rfl 92 (.tmp 6) rfl g6 0 rfl XF _ (zac kC.1) underlying92 rfl Hb.1 ?_
        | refine wpList_load_mid rfl 92 (.tmp 7) rfl g7 0 rfl XO _ (zac kC.2.1) underlying92 rfl Hb.2.1 ?_)
       refine (DD _).mono ?_;rintro e w6 ⟨rfl,hb⟩;have Dl:=kA (kC.2.2.2.1.keep hb);have dU:=kA (zad kC.2.2.2.2 hb);clear hb kC;go_wp2;go_roundw
       case rel=>exact⟨_,_,_,F2,_,_,_,O2,Z++[r],rfl,rfl,qG.out,Xv.out,om,om,om,om,om,Dl.out,De.out,dU⟩
       case measure=>simp[zhD] <;> omega
    ·have De:=kA hM;rw[e1]at heq;rw[e2]at DD;clear hM Xs e1 e2 HEq
     by_cases d1:c1=1
     ·have hT:=kA (qB d1);subst d1
      go_wp2_with (first
       | refine wpList_load_mid rfl 92 (.tmp 8) rfl g8 0 rfl XR _ (zac kC.2.2.1) underlying92 rfl Hb.2.2 ?_
       | refine wpList_load_mid rfl 92 (.tmp 6) rfl g6 0 rfl XF _ (zac kC.1) underlying92 rfl Hb.1 ?_
       | refine wpList_load_mid rfl 92 (.tmp 7) rfl g7 0 rfl XO _ (zac kC.2.1) underlying92 rfl Hb.2.1 ?_)
      refine (DD _).mono ?_;rintro e w6 ⟨rfl,hb⟩;have Dl:=kA (kC.2.2.2.1.keep hb);have dU:=kA (zad kC.2.2.2.2 hb);clear hb kC;go_wp2;go_roundw
      case rel=>exact⟨_,_,_,F2,_,_,_,o::O2,Z++[r],rfl,rfl,hT.out,H7.out,om,om,om,om,om,Dl.out,De.out,dU⟩
      case measure=>simp[zhD] <;> omega
     ·have hT:=kA (qC d1)
      skip
      go_wp2_with (first
       | refine wpList_load_mid rfl 92 (.tmp 8) rfl g8 0 rfl XR _ (zac kC.2.2.1) underlying92 rfl Hb.2.2 ?_
       | refine wpList_load_mid rfl 92 (.tmp 6) rfl g6 0 rfl XF _ (zac kC.1) underlying92 rfl Hb.1 ?_
       | refine wpList_load_mid rfl 92 (.tmp 7) rfl g7 0 rfl XO _ (zac kC.2.1) underlying92 rfl Hb.2.1 ?_)
      refine (DD _).mono ?_;rintro e w6 ⟨rfl,hb⟩;have Dl:=kA (kC.2.2.2.1.keep hb);have dU:=kA (zad kC.2.2.2.2 hb);clear hb kC;go_wp2;go_roundw
      case rel=>exact⟨_,_,_,F2,_,_,_,o::O2,Z++[r],rfl,rfl,hT.out,H7.out,om,om,om,om,om,Dl.out,De.out,dU⟩
      case measure=>simp[zhD] <;> omega
    ·have De:=kA hM;rw[e1]at heq;rw[e2]at DD;clear hM Xs e1 e2 HEq
     by_cases d2:c2=1
     ·have hT:=kA (YJ d2);subst d2
      go_wp2_with (first
       | refine wpList_load_mid rfl 92 (.tmp 8) rfl g8 0 rfl XR _ (zac kC.2.2.1) underlying92 rfl Hb.2.2 ?_
       | refine wpList_load_mid rfl 92 (.tmp 6) rfl g6 0 rfl XF _ (zac kC.1) underlying92 rfl Hb.1 ?_
       | refine wpList_load_mid rfl 92 (.tmp 7) rfl g7 0 rfl XO _ (zac kC.2.1) underlying92 rfl Hb.2.1 ?_)
      refine (DD _).mono ?_;rintro e w6 ⟨rfl,hb⟩;have Dl:=kA (kC.2.2.2.1.keep hb);have dU:=kA (zad kC.2.2.2.2 hb);clear hb kC;go_wp2;go_roundw
      case rel=>exact⟨_,_,_,f::F2,_,_,_,O2,Z++[r],rfl,rfl,dP.out,hT.out,om,om,om,om,om,Dl.out,De.out,dU⟩
      case measure=>simp[zhD] <;> omega
     ·have hT:=kA (YK d2)
      skip
      go_wp2_with (first
       | refine wpList_load_mid rfl 92 (.tmp 8) rfl g8 0 rfl XR _ (zac kC.2.2.1) underlying92 rfl Hb.2.2 ?_
       | refine wpList_load_mid rfl 92 (.tmp 6) rfl g6 0 rfl XF _ (zac kC.1) underlying92 rfl Hb.1 ?_
       | refine wpList_load_mid rfl 92 (.tmp 7) rfl g7 0 rfl XO _ (zac kC.2.1) underlying92 rfl Hb.2.1 ?_)
      refine (DD _).mono ?_;rintro e w6 ⟨rfl,hb⟩;have Dl:=kA (kC.2.2.2.1.keep hb);have dU:=kA (zad kC.2.2.2.2 hb);clear hb kC;go_wp2;go_roundw
      case rel=>exact⟨_,_,_,f::F2,_,_,_,O2,Z++[r],rfl,rfl,dP.out,hT.out,om,om,om,om,om,Dl.out,De.out,dU⟩
      case measure=>simp[zhD] <;> omega
   ·skip
    have YM:=kA (dP.keep HB);have vK:=kA (H7.keep HB);have yY:Z.length+n1<=4000000:=om
    go_wp2_with (first
     | (at_builtin;refine zbK rfl (.tmp 51) (.tmp 52) 85 96 (.agg (cRc zRc).toArray) rfl underlying85 zcA rfl (by decide) (by decide) zaC zcZ rfl Xn a1 n1 c1 rfl YM yY qA ?_))
    intro v' W2 k1 k2 k3;have vL:(Z++F').length+n2<=4000000:=by rw[length_append,dP.1];omega
    have He:Hid (Bw w W2):=kA (zaO HB k2 (λb e=>(Xn.lt b e).1));have qH:=kA k1;have YN:=kA (H7.keep He);have xv:Hid (w.heap.size<=W2.heap.size):=kA He.size;clear k1 k2 k3
    go_wp2_with (first
     | (at_builtin;refine zbK rfl (.tmp 53) (.tmp 54) 85 96 (.agg (cRc zRc).toArray) rfl underlying85 zcA rfl (by decide) (by decide) zaC zcZ rfl qH a2 n2 c2 rfl YN vL xv ?_))
    intro v2 W3 k1 k2 k3;have Ky:Hid (Bw w W3):=kA (zaO He k2 (λb e=>(qH.lt b e).1));have qI:=kA k1;clear k1 k2 k3;go_wp2;go_ret;exact kT om _ _ _ (by simp only[append_assoc]) qI Ky
  ·skip
   have YM:=kA (dP.keep HB);have vK:=kA (H7.keep HB);have yY:Z.length+n1<=4000000:=om
   go_wp2_with (first
    | (at_builtin;refine zbK rfl (.tmp 51) (.tmp 52) 85 96 (.agg (cRc zRc).toArray) rfl underlying85 zcA rfl (by decide) (by decide) zaC zcZ rfl Xn a1 n1 c1 rfl YM yY qA ?_))
   intro v' W2 k1 k2 k3;have vL:(Z++F').length+n2<=4000000:=by rw[length_append,dP.1];omega
   have He:Hid (Bw w W2):=kA (zaO HB k2 (λb e=>(Xn.lt b e).1));have qH:=kA k1;have YN:=kA (H7.keep He);have xv:Hid (w.heap.size<=W2.heap.size):=kA He.size;clear k1 k2 k3
   go_wp2_with (first
    | (at_builtin;refine zbK rfl (.tmp 53) (.tmp 54) 85 96 (.agg (cRc zRc).toArray) rfl underlying85 zcA rfl (by decide) (by decide) zaC zcZ rfl qH a2 n2 c2 rfl YN vL xv ?_))
   intro v2 W3 k1 k2 k3;have Ky:Hid (Bw w W3):=kA (zaO He k2 (λb e=>(qH.lt b e).1));have qI:=kA k1;clear k1 k2 k3;go_wp2;go_ret;exact kT om _ _ _ (by simp only[append_assoc]) qI Ky
def zvu(w w':World)(nF nO:Nat)(v:Value)(L X R:List Rc):Prop:=OwnX 12 cRc 92 w' w.heap.size v R/\R.length<=nF+nO/\zdp R/\∀k,look k R=(look k X.reverse).or (look k L)
def zht(X:List Rc)(zs:List Int):List Rc:=X.filter (λr=> !decide (r.id∈zs))
theorem zrw(w:World):(zeroValue 220).run prog w= .ok (.agg #[]) w:=oM
def kU:MK Unit:=mkA 199 220 (λ_=> .agg #[]) underlying199 zrw (λ_=>⟨[],rfl,λu h=>by cases h⟩)
def inU(l:List Int)(y:Int):Option Unit:=if y∈l then some () else none
theorem znu(l:List Int)(y:Int):(inU l y).isSome=decide (y∈l):=by
 unfold inU
 by_cases h:y∈l <;> simp[h]
theorem zxc(l:List Int)(x:Int):upm (inU l) x (some ())=inU (l++[x]):=funext λy=>by
 unfold upm inU
 by_cases e:y=x
 ·rw[if_pos e,if_pos (mem_append.2 (.inr (by rw[e];exact mem_singleton_self _)))]
 ·rw[if_neg e]
  by_cases m:y∈l
  ·rw[if_pos m,if_pos (mem_append.2 (.inl m))]
  ·rw[if_neg m,if_neg (λh=>by rcases mem_append.1 h with h | h;exact m h;exact e (mem_singleton.1 h))]
theorem zt0{zs:List Int}{j:Nat}(h:X[j]? =some x):zht (X.take (j+1)) zs=zht (X.take j) zs++(if x.id∈zs then [] else [x]):=by
 unfold zht;rw[take_add_one,h,filter_append]
 by_cases q:x.id∈zs <;> simp[q]
theorem zoG(av:Option Addr)(n cap:Nat)(X:List Rc)(ai:Option Addr)(ni ci:Nat)(zs:List Int)(w:World)(row:zb4 w av n X)(ri:Row w ai ni zs)(hn:n<=2000)(Nz:ni<=2000)(hX:∀x∈X,Rg x.id)(hz:Rgs zs):
  Calls prog 77 #[.slice av n cap,.slice ai ni ci] w λe w'=>∃v,e= .returned v/\OwnX 12 cRc 92 w' w.heap.size v (zht X zs)/\Bw w w':=by
 have X3:= @run_makeMap prog;have Hy:=ri.2.1;have rH:=row.2.1;have xH:=kA ri.1;have kG:=kA row.1;have dM:=kA ri;have hJ:=kA row;have Dj:=kA (And.intro hX hz);have DC:Hid (MF kU (w.alloc (.map #[] 0)) w.heap.size (inU [])/\Bw w (w.alloc (.map #[] 0))):=kA ⟨MF.new kU w,zaa _ _⟩;have xe:Hid (zs.take ni=zs):=kA (take_of_length_le (by rw[xH.out];exact Nat.le_refl _));clear row ri hX hz;go_enter func77,ntmps77;go_wp2
 go_loopw [7,16] (λ_ Sn wr=>∃j:Nat,Sn= .int .i64 j/\j<=ni/\MF kU wr w.heap.size (inU (zs.take j))/\Bw w wr) (λ_ Sn _=>ni - (ivl Sn).toNat)
 case atStart=>exact⟨0,rfl,om,DC.1,DC.2⟩
 case round=>
  clear DC;obtain⟨j,rfl,hj,hm,hb⟩:=hrel;have HM:=kA hm;have HB:=kA hb;clear hm hb
  by_cases hlt:j<ni
  ·have rG:=xH.out;rcases (zar dM HB).2.2 with h0 | ⟨b,off,ha,hcell⟩
   ·omega
   have cx:wr.cell? ⟨b,off+j,none⟩=some (.int .i64 (zs.getD j 0)):=hcell j hlt;have D5:zs[j]? =some (zs.getD j 0):=by rw[getElem?_eq_getElem om,getD,getElem?_eq_getElem om];rfl
   obtain⟨x,hx⟩:∃x,x=zs.getD j 0:=⟨_,rfl⟩;rw[<-hx]at cx D5;have Ci:Rg x:=Dj.2 x (mem_of_getElem? D5);have vM:upm (inU (zs.take j)) x (some ())=inU (zs.take (j+1)):=by rw[zxc,take_add_one,D5];rfl
   obtain⟨w2,Hi,Ct,Km⟩:=HM.put Ci () (zs.take (j+1)) (λy hy=>by
    rw[vM,znu]at hy
    exact of_decide_eq_true hy) (by rw[length_take];omega)
   have De:Hid (MF kU w2 w.heap.size (inU (zs.take (j+1)))/\Bw w w2):=kA ⟨vM ▸ Ct,zaO HB.out Km (λb e=>by injection e with e;omega)⟩;have Yc:(Instr.mapUpdate 199 (.map (some w.heap.size)) (.int .i64 x) (.agg #[])).run prog wr= .ok () w2:=Hi;have j0:(0:Int)<=(j:Int):=om;have j1:(j:Int)<(ni:Int):=om;subst ha;clear hx D5 Ci vM Hi Ct Km hcell rG HM HB;go_wp2;go_roundw
   case rel=>exact⟨j+1,by go_num,om,De.1,De.2⟩
   case measure=>simp[ivl] <;> omega
  ·obtain rfl:j=ni:=om;have j1:¬(j:Int)<(j:Int):=om;have rI:Hid (MF kU wr w.heap.size (inU zs)):=kA (xe.out ▸ HM.out);have YO:w.heap.size<wr.heap.size:=HM.out.lt;clear HM;go_wp2
   go_loopw [8,10,11,12,26] (λv8 _ _ _ v26 wr=>∃k:Nat,v26= .int .i64 k/\k<=n/\OwnX 12 cRc 92 wr (w.heap.size+1) v8 (zht (X.take k) zs)/\MF kU wr w.heap.size (inU zs)/\Bw w wr) (λ_ _ _ _ v26 _=>n - (ivl v26).toNat)
   case atStart=>exact⟨0,rfl,om,OwnX.nil _ _ _ _ _,rI.out,HB⟩
   case round=>
    clear rI HB YO;obtain⟨k,rfl,hk,ho,hm,hb⟩:=hrel;have HO:=kA ho;have HM:=kA hm;have HB:=kA hb;have YO:w.heap.size<wr.heap.size:=hm.lt;clear ho hm hb
    by_cases Da:k<n
    ·obtain⟨b,off,x,rfl,Ht,hx,hr⟩:=hJ.at_ Da;have Ci:Rg x.id:=Dj.1 x (mem_of_getElem? hx);have kM:=kA (zt0 (zs:=zs) hx);have xF:Hid (wr.rangeAt b (off+k*12) (cRc x)):=kA (zaP hr (HB.block b Ht));have KN:=Blk.new wr 92 (cRc zRc).toArray
     have C5:Hid (Blk ((wr.alloc (.cells (cRc zRc).toArray 92)).setCells wr.heap.size 0 (cRc x)) wr.heap.size 92 (cRc x).toArray/\OwnX 12 cRc 92 ((wr.alloc (.cells (cRc zRc).toArray 92)).setCells wr.heap.size 0 (cRc x)) (w.heap.size+1) u8 (zht (X.take k) zs)/\MF kU ((wr.alloc (.cells (cRc zRc).toArray 92)).setCells wr.heap.size 0 (cRc x)) w.heap.size (inU zs)/\Bw w ((wr.alloc (.cells (cRc zRc).toArray 92)).setCells wr.heap.size 0 (cRc x))):=kA (by
      have db:Bw wr ((wr.alloc (.cells (cRc zRc).toArray 92)).setCells wr.heap.size 0 (cRc x)):=zab _ (zaa _ _) (Nat.le_refl _);refine⟨?_,HO.keep db,HM.keep db,zad HB db⟩;have:=zaf (cRc x) (o:=0) KN (Nat.le_refl 12);rw[zcj]at this
      exact this)
     have qJ:Hid ((wr.alloc (.cells (cRc zRc).toArray 92)).there wr.heap.size 0 12):=kA (zae KN (Nat.le_refl 12));have Hb:=kA (zaN x);have Xn:=kA (zb2 x);have xG:Hid (∀W,(Instr.buildSlice 85 1 #[(0,.agg (cRc x).toArray)]).run prog W= .ok (.slice (some ⟨W.heap.size,0,none⟩) 1 1) (W.alloc (.cells (cRc x).toArray 92))):=kA (zrv x);have yi:Hid (∀W g,Blk W g 92 (cRc x).toArray->W.cell? ⟨g,0,none⟩=some (.int .i64 x.id)):=kA (λW g q=>q.cell 0);obtain⟨XX,YP⟩:∃XX,XX=cRc x:=⟨_,rfl⟩;have Z1:=kA YP;have xf:Hid (XX.length=12):=kA (by rw[YP];rfl);rw[<-YP]at xF C5 Hb Xn xG yi;obtain⟨y,hy⟩:∃y,y=x.id:=⟨_,rfl⟩;rw[<-hy]at yi kM Ci;have Hh:Hid ((prog.info? 92).map (·.size)=some XX.toArray.size):=Hb;have ki:Hid ((wr.alloc (.cells (cRc zRc).toArray 92)).there wr.heap.size 0 XX.toArray.size):=kA (by show World.there _ _ 0 XX.length;rw[xf.out];exact qJ);have j0:(0:Int)<=(k:Int):=om;have j1:(k:Int)<(n:Int):=om;have vN:=kA Ci;clear KN qJ YP hy hx hr Ht Ci HO HM HB
     go_upto_region 11 with (first
      | refine wpList_load_mid rfl 92 (.tmp 28) rfl b (off+k*12) rfl XX _ xF underlying92 rfl Hb ?_
      | refine wpList_store_mid rfl 92 (.tmp 10) (.tmp 29) rfl wr.heap.size 0 XX.toArray rfl rfl ki Hh Xn ?_)
     refine fin (λW=>Blk W wr.heap.size 92 XX.toArray/\OwnX 12 cRc 92 W (w.heap.size+1) u8 (zht (X.take k) zs)/\MF kU W w.heap.size (inU zs)/\Bw w W) C5 ?_;obtain⟨g10,hg⟩:∃g10,g10=wr.heap.size:=⟨_,rfl⟩;rw[<-hg]at YO ⊢;clear C5 ki xF hg;rintro W ⟨kx,ho,hm,hb⟩;have hcell:W.cell? ⟨g10,0,none⟩=some (.int .i64 y):=yi.out _ _ kx;have Yd:(Instr.lookup 199 (.map (some w.heap.size)) (.int .i64 y) true).run prog W= .ok (.tuple #[.agg #[],.bool (decide (y∈zs))]) W:=by
      have:=hm.look vN;rw[znu]at this;exact this
     have HK:Hid (∀W',Bw W W'->Blk W' g10 92 XX.toArray/\OwnX 12 cRc 92 W' (w.heap.size+1) u8 (zht (X.take k) zs)/\MF kU W' w.heap.size (inU zs)/\Bw w W'):=kA (λW' q=>⟨kx.keep q,ho.keep q,hm.keep q,zad hb q⟩);have cj:=kx.lt;clear kx ho hm hb;obtain⟨bb,KD⟩:∃bb,bb=decide (y∈zs):=⟨_,rfl⟩;rw[<-KD]at Yd;have dA:=kA KD;clear KD;go_upto_region 12 with fail;refine fin (λW'=>Blk W' g10 92 XX.toArray/\OwnX 12 cRc 92 W' (w.heap.size+1) u8 (zht (X.take k) zs)/\MF kU W' w.heap.size (inU zs)/\Bw w W') (HK _ (zaa _ _)) ?_;clear HK Yd hcell cj;rintro W2 ⟨kx,ho,hm,hb⟩;have KX:=kA kx;have HO:=kA ho;have HM:=kA hm;have HB:=kA hb;have vO:w.heap.size+1<=W2.heap.size:=hm.lt;clear kx ho hm hb
     cases bb
     ·have Ho:¬y∈zs:=of_decide_eq_false dA.symm;rw[if_neg Ho]at kM;have zW:(zht (X.take k) zs).length<=2000:=by
       have q1:=length_filter_le (λr:Rc=> !decide (r.id∈zs)) (X.take k);rw[length_take]at q1;unfold zht;omega
      clear dA Ho
      go_wp2_with (first
       | refine wpList_load_mid rfl 92 (.tmp 10) rfl g10 0 rfl XX _ (zac KX) underlying92 rfl Hb ?_
       | refine zet rfl 85 92 (.tmp 40) rfl XX rfl xG ?_
       | (at_builtin;refine zbu rfl (.tmp 39) (.tmp 41) 85 96 (.agg (cRc zRc).toArray) rfl underlying85 zcA rfl (by decide) (by decide) zaC x (zcZ x) rfl (HO.keep (zaa _ _)) W2.heap.size 1 rfl (by rw[<-Z1.out];exact zac (Blk.new W2 _ _)) zW (Nat.le_trans vO (by simp)) ?_))
      intro v' W3 k1 k2 k3
      have K:Hid (OwnX 12 cRc 92 W3 (w.heap.size+1) v' (zht (X.take (k+1)) zs)/\MF kU W3 w.heap.size (inU zs)/\Bw w W3):=kA (by
       have Hf:Bw W2 (W2.alloc (.cells XX.toArray 92)):=zaa _ _;have q:=HM.keep Hf
       exact⟨by rw[kM.out];exact k1,q.same (k2.block _ q.lt (λe=>by have:=(HO.lt _ e.symm).1;omega)),zaO (zad HB Hf) k2 (λb e=>by have:=(HO.lt b e).1;omega)⟩)
      clear k1 k2 k3 HO HM HB KX;go_wp2;go_roundw
      case rel=>exact⟨k+1,by go_num,om,K.1,K.2.1,K.2.2⟩
      case measure=>simp[ivl] <;> omega
     ·have hin:y∈zs:=of_decide_eq_true dA.symm;rw[if_pos hin,append_nil]at kM;clear dA hin;go_wp2;go_roundw
      case rel=>exact⟨k+1,by go_num,om,by rw[kM.out];exact HO.out,HM.out,HB⟩
      case measure=>simp[ivl] <;> omega
    ·obtain rfl:k=n:=om;have j2:¬(k:Int)<(k:Int):=om
     have cd:Hid (OwnX 12 cRc 92 wr w.heap.size u8 (zht X zs)):=kA (by
      have q:=HO.out;rw[take_of_length_le (by rw[kG.out];exact Nat.le_refl _)]at q
      exact q.low om)
     go_wp2;go_ret;exact⟨u8,rfl,cd.out,HB⟩
end Go.Proofs.YtlibdcmcbinfnaaGreat
